/-
  Part Sd.
-/
import Derived.Test.YtmkkibaacclhnaaGreatDoorVc
import Derived.Test.YtmkkibaacclhnaaGreatDoorVb
import Derived.Test.YtmkkibaacclhnaaGreatDoorWw
import Derived.Test.YtmkkibaacclhnaaGreatDoorSb
import Derived.Test.YtmkkibaacclhnaaGreatDoorYe
import Derived.Handy
import Derived.Test.YtmkkibaacclhnaaGreatDoorWf
namespace Go.Proofs.YtmkkibaacclhnaaGreatDoor
open Go.RowKit
set_option maxRecDepth 100000
set_option maxHeartbeats 40000000
theorem G2r (d:Nat):G4p d:=by
 induction d with
 |zero=>
  intro w y cap inn l indent so v h c u f q p i j a g;cases l with
  |nil=>exact absurd rfl a
  |cons x r=>
   obtain⟨o,rfl,_⟩:=h (by simp);simp only[A0i]at a;by_cases e:A0z x=true/\x.k<5
   ·rw[show wrD indent so 0 (x::r)=B3v x from by simp only[wrD]]
    exact E6s w o cap inn x r indent so h (q x (by simp)) e.2 e.1 (p x (by simp))
   ·rw[if_neg e]at a
    exact absurd rfl a
 |succ d ih=>
  intro w y cap inn l indent so v h c u f q p i j a g;cases l with
  |nil=>exact absurd rfl a
  |cons x r=>
   obtain⟨o,rfl,_⟩:=h (by simp);by_cases e:A0z x=true
   ·by_cases t:x.k<5
    ·rw[show wrD indent so (d+1) (x::r)=B3v x from by simp only[wrD];rw[if_pos t]]
     exact E6s w o cap inn x r indent so h (q x (by simp)) t e (p x (by simp))
    ·obtain⟨k,n,b,s⟩:=x
     obtain⟨m,_⟩:=A5i e t;simp only at m t;rcases m with rfl|rfl
     ·exact G2p d ih w o cap inn n b s r indent so v h c u f q p i j e a g
     ·exact G2q d ih w o cap inn n b s r indent so v h c u f q p i j e a g
   ·exfalso
    simp only[A0i]at a;rw[if_neg e]at a;exact a rfl
noncomputable def F5t (l:List Im) (indent:Int) (so:Bool):LU8×Int:=
 if indent< -1\/16<indent then([],1)else if A0i 1000 l=0\/A0i 1000 l≠l.length then([],8)else(wrD indent so 1000 l,0)
theorem D9q (w:World) (f:Option Addr) (cap:Nat) (l:List Im) (indent:Int) (so:Bool) (h:LR w f l) (c:l.length<=cap) (u:cap<=9223372036854775807) (o:l.length<=10000000) (r:∀x,x∈l->x.s.length<=100000000) (B:Bok l) (i:wgt l<=100000000000):
 Calls Tryz.prog 28 #[.slice f l.length cap,.int .i64 indent,.bool so] w λe w'=>e=.returned (.tuple #[.string (ofL (F5t l indent so).1),.int .i64 (F5t l indent so).2])/\Fr (λ_=>False) w w':=by
 unfold F5t;have C:=hid (Fr.refl (λ_=>False) w);by_cases m:indent< -1
 ·rw[if_pos (.inl m)]
  have F:decide (indent< -1)=true:=dcT m;clear h;go_enter Tryz.func28,Tryz.ntmps28;go_wp2;go_ret2;exact⟨rfl,C.out⟩
 have G:decide (indent< -1)=false:=dcF m;by_cases n:16<indent
 ·rw[if_pos (.inr n)]
  have F:decide (16<indent)=true:=dcT n;clear h;go_enter Tryz.func28,Tryz.ntmps28;go_wp2;go_ret2;exact⟨rfl,C.out⟩
 have E:decide (16<indent)=false:=dcF n;rw[if_neg (λhh=>hh.elim m n)];have d:=hid (show Calls Tryz.prog 46 #[.slice f l.length cap,.int .i64 0] w _ from C6a 1000 w f cap 0 l rfl h c u r);have p:=hid (λ(wx:World) (hf:Fr (λ_=>False) w wx) (hsz:A0i 1000 l≠0)=>(show Calls Tryz.prog 47 #[.slice f l.length cap,.int .i64 indent,.bool so,.int .i64 0] wx _ from G2r 1000 wx f cap 0 l indent so rfl (h.fr hf) c u o r B (by omega) (by omega) hsz i));have D:=A5w 1000 l;generalize A0i 1000 l=z at*;generalize wrD indent so 1000 l=T at*;generalize l.length=L at*;clear h r B i m n;by_cases j:z=0
 ·subst j
  rw[if_pos (.inl rfl)];go_enter Tryz.func28,Tryz.ntmps28
  go_wp2_with fail
  refine Calls.mono d.out ?_;rintro e t ⟨rfl,a⟩;have b:=hid a;clear a;go_wp2;go_ret2;exact⟨rfl,b.out⟩
 have y:((z:Int)==0)=false:=bqF (by omega);by_cases k:z=L
 ·subst k
  rw[if_neg (by omega)];go_enter Tryz.func28,Tryz.ntmps28
  go_wp2_with fail
  refine Calls.mono d.out ?_;rintro e t ⟨rfl,a⟩;have b:=hid a;clear a
  go_wp2_with fail
  refine Calls.mono (p.out t b.out j) ?_;rintro e H ⟨rfl,g⟩;have q:=hid (b.trans g);clear g;go_wp2;go_ret2;exact⟨rfl,q.out⟩
 ·rw[if_pos (.inr k)]
  have A:((z:Int)!=(L:Int))=true:=by simp;omega
  have v:((z:Int)==(L:Int))=false:=bqF (by omega);go_enter Tryz.func28,Tryz.ntmps28
  go_wp2_with fail
  refine Calls.mono d.out ?_;rintro e t ⟨rfl,a⟩;have b:=hid a;clear a;go_wp2;go_ret2;exact⟨rfl,b.out⟩
theorem D3g (indent:Int) (w:World) (a: -1<=indent) (b:indent<=16):Calls Tryz.prog 24 #[.int .i64 indent] w λe w'=>e=.returned (.bool true)/\w'=w:=by
 have c:decide (-1<=indent)=true:=dcT a;have d:decide (indent<=16)=true:=dcT b;go_enter Tryz.func24,Tryz.ntmps24;go_wp2;go_ret;exact⟨rfl,rfl⟩
theorem F5u (indent:Int) (w:World) (h:indent< -1\/16<indent):Calls Tryz.prog 24 #[.int .i64 indent] w λe w'=>e=.returned (.bool false)/\w'=w:=by
 rcases h with h|h
 ·have a:decide (-1<=indent)=false:=dcF (by omega)
  go_enter Tryz.func24,Tryz.ntmps24;go_wp2;go_ret;exact⟨rfl,rfl⟩
 ·have a:decide (-1<=indent)=true:=dcT (by omega)
  have b:decide (indent<=16)=false:=dcF (by omega);go_enter Tryz.func24,Tryz.ntmps24;go_wp2;go_ret;exact⟨rfl,rfl⟩
theorem D9r (w:World) (v:Value) (indent:Int) (so:Bool) (h:indent< -1\/16<indent):
 Calls Tryz.prog 8 #[v,.int .i64 indent,.bool so] w λe w'=>e=.returned (.tuple #[.string (ofL []),.int .i64 1])/\Fr (λ_=>False) w w':=by
 have a:=hid (λw=>F5u indent w h);have b:=hid (Fr.refl (λ_=>False) w);clear h;go_enter Tryz.func8,Tryz.ntmps8
 go_wp2_with (first|(go_at_call 24;refine Calls.mono (a.out _) ?_;rintro e c ⟨rfl,rfl⟩)|fail)
 go_ret2;exact⟨rfl,b.out⟩
theorem D9s (w:World) (a cap n:Nat) (indent:Int) (so:Bool) (d: -1<=indent) (h:indent<=16)
 (b:Calls Tryz.prog 25 #[.slice (some ⟨a,0,none⟩) n cap] w λe w'=>Fr (λ_=>False) w w'/\∃(k m:Nat),e=.returned (.tuple #[.agg #[.slice (some ⟨a,0,none⟩) n cap,.slice (some ⟨k,0,none⟩) n n,.int .i64 (m:Int)],.bool false])):
 Calls Tryz.prog 8 #[.slice (some ⟨a,0,none⟩) n cap,.int .i64 indent,.bool so] w λe w'=>e=.returned (.tuple #[.string (ofL []),.int .i64 8])/\Fr (λ_=>False) w w':=by
 have f:=hid (λw=>D3g indent w d h);have H:=hid b;clear b;go_enter Tryz.func8,Tryz.ntmps8
 go_wp2_with (first|(go_at_call 24;refine Calls.mono (f.out _) ?_;rintro e j ⟨rfl,rfl⟩)|fail)
 refine Calls.mono H.out ?_;rintro e i ⟨c,k,m,rfl⟩;have g:=hid (λo=>c.alloc o);clear c;go_wp2;go_ret2;exact⟨rfl,g.out _⟩
theorem PIn.first {w b:World} {c cap:Nat} {its:List Im} {g:Nat} {beh:List Nat} {v:Value} (f:B9r w (.slice (some ⟨c,0,none⟩) its.length cap) its) (i:Fr (λ_=>False) w b) (h:OutOk w b c cap its v g beh) (o:Obj) (a:Int) (so:Bool):
 PIn ((b.alloc o).alloc (.cells #[.slice (some ⟨c,0,none⟩) its.length cap,.slice (some ⟨g,0,none⟩) its.length its.length,.int .i64 (its.length:Int),.int .i64 a,.bool so,.int .i64 0,.pointer none,.slice none 0 0] 69)) (b.heap.size+1) g c cap its beh its.length a so 0 (.pointer none) (.slice none 0 0) []:=by
 have d:=((Fr.refl (λ_=>False) b).alloc o).alloc (.cells #[.slice (some ⟨c,0,none⟩) its.length cap,.slice (some ⟨g,0,none⟩) its.length its.length,.int .i64 (its.length:Int),.int .i64 a,.bool so,.int .i64 0,.pointer none,.slice none 0 0] 69);have e:=heap_alloc_new (b.alloc o) (.cells #[.slice (some ⟨c,0,none⟩) its.length cap,.slice (some ⟨g,0,none⟩) its.length its.length,.int .i64 (its.length:Int),.int .i64 a,.bool so,.int .i64 0,.pointer none,.slice none 0 0] 69);rw[show(b.alloc o).heap.size=b.heap.size+1 by simp]at e;exact⟨⟨e,.inl rfl,⟨rfl,.inl ⟨rfl,rfl⟩⟩⟩,f.fr (i.trans d) (λ_ _=>id),A7e h.row d (λ_ _=>id),h.beh⟩
theorem E6v (w:World) (b cap:Nat) (its:List Im) (indent:Int) (so:Bool) (F:B9r w (.slice (some ⟨b,0,none⟩) its.length cap) its) (K: -1<=indent) (L:indent<=16) (Q:its.length<=10000000) (G:∀x,x∈its->x.s.length<=100000000) (J:Bok its) (I:(wrD indent so 1000 its).length<=90000000000) (k:wrD indent so 1000 its≠[]) (E:A0i 1000 its=its.length) (y:its.length≠0)
 (C:Calls Tryz.prog 25 #[.slice (some ⟨b,0,none⟩) its.length cap] w λe w'=>Fr (λ_=>False) w w'/\∃v,e=.returned (.tuple #[v,.bool true])/\∃g beh,OutOk w w' b cap its v g beh):
 Calls Tryz.prog 8 #[.slice (some ⟨b,0,none⟩) its.length cap,.int .i64 indent,.bool so] w λe w'=>e=.returned (.tuple #[.string (ofL (wrD indent so 1000 its)),.int .i64 0])/\Fr (λ_=>False) w w':=by
 have S:=hid (λw=>D3g indent w K L);have H:=hid C;have N:=hid F;have a:=hid (λwx B g beh nx ad vo (hx:PIn wx B g b cap its beh nx indent so 0 ad vo [])=>E6r 1000 wx B g b cap its beh nx indent so 0 ad vo [] 0 hx rfl K L Q G J (by rw[List.drop_zero,E];exact y) (by rw[List.drop_zero];simpa using I));simp only[List.drop_zero,List.nil_append]at a;have d:=hid (λB wx vi vb nx op ad vo (hx:WAt B wx vi vb nx indent so op ad vo (wrD indent so 1000 its))=>D9p B wx vi vb nx indent so op ad vo _ hx k (by omega));clear C F G J I k E;obtain⟨T,D⟩:∃T,wrD indent so 1000 its=T:=⟨_,rfl⟩;rw[D]at a d ⊢;clear D;go_enter Tryz.func8,Tryz.ntmps8
 go_wp2_with (first|(go_at_call 24;refine Calls.mono (S.out _) ?_;rintro e R ⟨rfl,A⟩;have t:=A.symm;subst t)|fail)
 refine Calls.mono H.out ?_;rintro e P ⟨m,v,rfl,g,beh,p⟩;have V:=p.val;subst V;have O:=hid (λo=>PIn.first N.out m p o indent so);have U:=hid m;have W:w.heap.size<=P.heap.size:=m.size;clear m p;generalize its.length=n at*
 go_wp2_with fail
 refine Calls.mono (a.out _ _ _ _ _ _ _ (O.out _)) ?_;rintro e R ⟨rfl,u,c,j,l⟩
 have r:=hid (((U.alloc _).alloc _).trans' j (by
  rintro i (rfl|h)
  ·exact .inr (by omega)
  ·simp[Value.ownBlock]at h))
 have z:=hid (show∀i,u.ownBlock=some i->w.heap.size<=i fromλi hi=>by
  rcases l i hi with h|h
  ·simp[Value.ownBlock]at h
  ·simp at h;omega)
 have M:=hid (d.out _ _ _ _ _ _ _ _ c);clear c j l
 go_wp2_with fail
 refine Calls.mono M.out ?_;rintro e X ⟨rfl,f⟩;have q:=hid (r.trans' f (λi hi=>.inr (z.out i hi)));clear f;go_wp2;go_ret2;exact⟨rfl,q.out⟩
theorem F3g:A3u 1 0 4607182418800017408:=by
 show Rnd (1*pP 0) (p10 0) 4607182418800017408
 unfold Rnd;decide+kernel
theorem F5v:mid 4607182418800017408<4*p2 1074:=by decide+kernel
theorem G2s:2*p2 1074<mid 4607182418800017407*10:=by decide+kernel
theorem E6w:4607182418800017408-1=4607182418800017407:=by omega
theorem D9t {D:Nat} {c:Int} (h:B1e 4607182418800017408 D c):D=1/\c=0:=by
 have hr:=h.rnd (by omega);have f:=hr.pos (by omega);have g:D*pP c=D*p10 c.toNat*p2 1074:=by rw[pP,Nat.mul_assoc]
 have t:=A2y 1074
 have q:c<=0:=by
  rcases Int.lt_or_le 0 c with d|d
  ·exfalso
   obtain⟨_,b⟩:=hr;rw[g,show(-c).toNat=0 by omega,show p10 0=1 from rfl,Nat.mul_one]at b;have e:=A3r 1 c.toNat (by omega);rw[show p10 1=10 from rfl]at e;have m:1*10<=D*p10 c.toNat:=Nat.mul_le_mul f e;have r:1*10*p2 1074<=D*p10 c.toNat*p2 1074:=Nat.mul_le_mul_right _ m;have:=F5v;omega
  ·exact d
 have p:0<=c:=by
  rcases Int.lt_or_le c 0 with d|d
  ·exfalso
   obtain⟨s,R,L,H,U,u,k,i⟩:=h;rcases i with rfl|i
   ·have j:D=1:=by rcases B1p k with rfl|rfl<;>omega
    obtain⟨a,_⟩:=hr
    have l:mid (4607182418800017408-1)*p10 (-c).toNat<=2*(D*pP c):=by
     rcases a with a|a|⟨a,_⟩
     ·exact absurd a (by decide)
     ·exact Nat.le_of_lt a
     ·exact Nat.le_of_eq a
    rw[E6w]at l
    have o:D*pP c=p2 1074:=by
     rw[g,j,show c.toNat=0 by omega,show p10 0=1 from rfl,Nat.one_mul]
    rw[o]at l;have e:=A3r 1 (-c).toNat (by omega);have m:p10 1=10:=rfl;rw[m]at e;have n:=Nat.mul_le_mul_left (mid 4607182418800017407) e;exact absurd G2s (Nat.not_lt.2 (Nat.le_trans n l))
   ·refine i.none (by omega) (1*p10 (-1-c).toNat) ?_
    have:=F3g.same (B1q.shift 1 (-1-c).toNat 0);rwa[show(0:Int)-((-1-c).toNat:Int)=c+1 by omega]at this
  ·exact d
 obtain rfl:c=0:=by omega
 refine⟨?_,rfl⟩;obtain⟨_,b⟩:=hr;rw[g,show(0:Int).toNat=0 from rfl,show p10 0=1 from rfl,Nat.mul_one,show(-(0:Int)).toNat=0 from rfl,show p10 0=1 from rfl,Nat.mul_one]at b;have:=F5v;rcases Nat.lt_or_ge D 2 with d|d
 ·omega
 ·exfalso
  have r:2*p2 1074<=D*p2 1074:=Nat.mul_le_mul_right _ d;omega
theorem D0p {P:Program} {f:FuncId} {args:Array Value} {w:World} {b:Value} {R:Value->World->Prop} {S:World->Prop} (c:P.inits.idxOf? f=none) (p:Calls P f args w λe w'=>∃a,e=.returned a/\R a w') (l:Calls P f args w λe w'=>e=.returned b/\S w'):∃w',R b w':=by
 obtain⟨s,u,r,⟨a,rfl,d⟩,⟨y,m⟩,h,k⟩:=p [];obtain⟨q,x,t,⟨rfl,_⟩,⟨v,i⟩,n,j⟩:=l [];have o:=step_leave_done k (by rw[h];exact c);have g:=step_leave_done j (by rw[n];exact c);have:=B5g m o i g;injection this with this
 subst this;exact⟨_,d⟩
theorem D3h (w:World):A9p 4607182418800017408=[49]:=by
 have a:Calls Tryz.prog 23 #[.int .u64 ((4607182418800017408:Nat):Int)] w λe w'=>e=.returned (.tuple #[.string (ofL [49]),.int .i64 0])/\Fr (λ_=>False) w w':=by
  refine(A9x 4607182418800017408 4607182418800017408 w (A2j 4607182418800017408 (by omega)) (by omega) (by omega)).mono ?_;rintro e w' ⟨D,f,d,_,_,_,b,c⟩;obtain⟨rfl,rfl⟩:=D9t d;have a:dgs 1=[49]:=by rw[A6a (by omega)];rfl
  rw[a]at b;exact⟨b,c⟩
 have:=C0n (by kernel_rfl) a (C6p 4607182418800017408 w (by omega) (by omega));simp at this;exact(C6n this).symm
theorem F8u (l:LU8) (b:Int) (h:0<l.length):B3b l b≠[]:=by
 have a:l≠[]:=by rintro rfl;simp at h
 unfold B3b;split
 ·unfold D6z
  simp[a]
 ·split
  ·simp
  ·split
   ·simp[a]
   ·simp
theorem E6x (w:World) (b:Nat) (f:b<18446744073709551616) (c:b % 9223372036854775808<9218868437227405312):A9p b≠[]:=by
 have k:Calls Tryz.prog 23 #[.int .u64 (b:Int)] w λe w'=>∃a,e=.returned a/\∃t,a=.tuple #[.string (ofL t),.int .i64 0]/\t≠[]:=by
  by_cases i:b % 9223372036854775808=0
  ·refine(B5y b _ w (A2j b f) i).mono ?_
   rintro e w' ⟨rfl,j⟩;refine⟨_,rfl,_,rfl,?_⟩;intro h;unfold D4e at h;split at h<;>cases h
  ·refine(A9x b _ w (A2j b f) i c).mono ?_
   rintro e w' ⟨D,m,l,_,_,_,rfl,j⟩;refine⟨_,rfl,_,rfl,?_⟩;unfold D4e;split
   ·simp
   ·exact F8u _ _ (B9f D)
 obtain⟨_,t,g,d⟩:=D0p (by kernel_rfl) k (C6p b w f c);simp at g;rw[C6n g];exact d
theorem F3h (w:World) (x:Im) (a:A0z x=true) (c:x.b<18446744073709551616):B3v x≠[]:=by
 unfold B3v;split
 ·simp
 ·split
  ·simp
  ·split
   ·simp
   ·split
    ·rename_i h;exact E6x w x.b c (B5h a h)
    ·unfold A3g;simp
theorem G2t (w:World) (indent:Int) (so:Bool) (d:Nat) (l:List Im) (f:Bok l) (c:A0i d l≠0):wrD indent so d l≠[]:=by
 cases l with
 |nil=>exact absurd (by cases d<;>rfl) c
 |cons x r=>
  have a:A0z x=true:=by
   by_cases a:A0z x=true
   ·exact a
   ·exfalso
    apply c;cases d with
    |zero=>rw[A0i,if_neg (λh=>a h.1)]
    |succ e=>rw[A0i,if_neg a]
  have b:=F3h w x a (f x (by simp));cases d with
  |zero=>exact b
  |succ d=>
   simp only[wrD];split
   ·exact b
   ·unfold A7w
    split<;>simp
theorem D9u (w:World) (a cap:Nat) (its:List Im) (indent:Int) (so:Bool) (g:B9r w (.slice (some ⟨a,0,none⟩) its.length cap) its) (l:C0f w) (j:its.length<=10000000) (i:∀x,x∈its->x.s.length<=100000000) (c:Bok its) (t:wgt its<=90000000000):
 Calls Tryz.prog 8 #[.slice (some ⟨a,0,none⟩) its.length cap,.int .i64 indent,.bool so] w λe w'=>e=.returned (.tuple #[.string (ofL (F5t its indent so).1),.int .i64 (F5t its indent so).2])/\Fr (λ_=>False) w w':=by
 unfold F5t;by_cases o:indent< -1\/16<indent
 ·rw[if_pos o]
  exact D9r w _ indent so o
 ·rw[if_neg o]
  by_cases f:A0i 1000 its=0\/A0i 1000 its≠its.length
  ·rw[if_pos f]
   refine D9s w a cap its.length indent so (by omega) (by omega) ?_;by_cases b:A0i 1000 its=0
   ·exact D9g w a cap its g l j i c b
   ·refine(B7h w a cap its g l j i c b).mono ?_
    rintro e w' ⟨n,v,rfl,⟨k,m,rfl⟩,_⟩;have:((A0i 1000 its:Int)==(its.length:Int))=false:=bqF (by omega);exact⟨n,k,m,by rw[this]⟩
  ·rw[if_neg f]
   have b:A0i 1000 its≠0:=λh=>f (.inl h)
   have d:A0i 1000 its=its.length:=Classical.byContradiction (λh=>f (.inr h));have p:=E6b w indent so (by omega) 1000 its c b;have q:=C0s its (A0i 1000 its);refine E6v w a cap its indent so g (by omega) (by omega) j i c (by omega) (G2t w indent so 1000 its c b) d (by omega) ?_;refine(B7h w a cap its g l j i c b).mono ?_;rintro e w' ⟨n,v,rfl,_,r⟩;have:((A0i 1000 its:Int)==(its.length:Int))=true:=beq_iff_eq.2 (by omega);exact⟨n,v,by rw[this],r d⟩
theorem D9v (B c n:Nat) (S:Nat->Prop) (l:LU8) (w0 w:World) (h:F0w B c n S w0 w) (k:n≠0):
 Calls Tryz.prog 31 #[.pointer (some ⟨B,0,none⟩),.string (ofL l)] w λe w'=>e=.returned (.int .i64 (n:Int))/\F0w B c n S w0 w':=by
 have m:∀(fn:Fn) (first cap:Array Value) (w:World),(Instr.makeFunc fn first cap).run Tryz.prog w=.ok (.func fn first cap) w:=λ_ _ _ _=>rfl
 obtain⟨f,i⟩:=h;have g:=lt_of_block f;have d:∀a b,((w.alloc a).alloc b).heap[B]? =some (.cells (A3k c n) 113 (0,0)):=λa b=>((Below.heap_alloc (w.alloc a) b B (by simp;omega)).trans (Below.heap_alloc w a B g)).trans f
 have o:∀a b,((w.alloc a).alloc b).cell? ⟨B,3,none⟩=some (.bool false):=λa b=>A0a (d a b) rfl
 have p:∀a b,((w.alloc a).alloc b).cell? ⟨B,2,none⟩=some (.int .i64 (n:Int)):=λa b=>A0a (d a b) rfl
 have q:((n:Int)!=0)=true:=bne_iff_ne.2 (by omega);have j:=hid (show∀a b,F0w B c n S w0 ((w.alloc a).alloc b)fromλa b=>⟨d a b,(i.alloc a).alloc b⟩);clear f i d k
 go_enter_defers Tryz.func31,Tryz.ntmps31
 go_wp2;simp[bodyPostD,Leaves,results,Tryz.results31,go_sem];exact j.out _ _
theorem F3i (B d:Nat) (S:Nat->Prop) (w0 w:World) (l a:LU8) (v:1<=d) (t:d<=1000) (y:l.length+a.length<=1500000) (h:Rd B S w0 w (A0p (ps0 d) l)):
 Calls Tryz.prog 31 #[.pointer (some ⟨B,0,none⟩),.string (ofL a)] w λe w'=>e=.returned (.int .i64 ((D2d (A0p (ps0 d) (l++a)):Nat):Int))/\Rd B S w0 w' (A0p (ps0 d) (l++a)):=by
 rw[C8d];cases f:A0p (ps0 d) l with
 |error x=>
  obtain⟨n,c⟩:=x;rw[f]at h;exact D9v B c n S a w0 w h (A9z f).1
 |ok s=>
  rw[f]at h;obtain⟨u,m,q,p,g,o⟩:=h;have i:=D4s (F5b d v t) f;have r:=C3c f;have k:(ps0 d).came=0:=rfl;refine(F0x B u m q p s _ _ a (A0p s a) w g.pr o i (by omega) (by omega) (by omega) rfl).mono ?_;rintro e w' ⟨rfl,b⟩;refine⟨rfl,?_⟩
  show Rd B S w0 w' (A0p s a)
  cases j:A0p s a with
  |ok s'=>
   rw[j]at b;exact g.trans b
  |error x=>
   obtain⟨n,c⟩:=x;rw[j]at b;exact⟨b.1,g.fr.trans' b.2 g.ow⟩
theorem G2u (d:Nat) (w:World):Rd w.heap.size (λ_=>False) w (w.alloc (.cells (A0f (ps0 d) C3g C3g C3g C3g) 113)) (A0p (ps0 d) []):=by
 refine⟨C3g,C3g,C3g,C3g,⟨C8u d w,(Fr.refl _ _).alloc _,?_⟩,λ_=>rfl,λ_ _=>rfl⟩;intro i a;rcases a with rfl|a|a|a|a
 ·exact .inr (Nat.le_refl _)
 all_goals cases a
theorem G2v (l:List It):F7g (ims l)=B3e l:=by
 induction l with
 |nil=>rfl
 |cons x l ih=>
  show imC (B7f x)++F7g (ims l)=_
  rw[ih];rfl
def TR (w:World) (pa:Option Addr) (cs:List (LU8)):Prop:=cs≠[]->∃ad,pa=some ad/\ad.block<w.heap.size/\∀i s,cs[i]? =some s->w.cell? (ad.add i)=some (.string (ofL s))
theorem TR.fr {w w':World} {c:Option Addr} {b:List (LU8)} (h:TR w c b) (a:Fr (λ_=>False) w w'):TR w' c b:=by
 intro f;obtain⟨d,g,e,j⟩:=h f;exact⟨d,g,Nat.lt_of_lt_of_le e a.size,λi s hs=>by rw[a.cell (p:=d.add i) (by rw[B1y];exact e) id];exact j i s hs⟩
theorem B3z {d:Nat} {l:LU8} (h:(A5m (A0p (ps0 d) l)).2.1=0):(A5m (A0p (ps0 d) l)).1≠[]/\A0i d (ims (A5m (A0p (ps0 d) l)).1)=(A5m (A0p (ps0 d) l)).1.length/\Bok (ims (A5m (A0p (ps0 d) l)).1):=by
 have hr:=B0w d l;cases a:B1g d l with
 |ok n its p=>
  rw[a]at hr;simp only at hr;rw[hr.2];exact D9a a
 |wrong n p=>
  rw[a]at hr;simp only at hr;exfalso;have b:=(A9z hr).1;rw[hr]at h;exact b h
 |ended late=>
  rw[a]at hr;simp only at hr;rw[hr.2]at h;exfalso;cases late<;>cases h
theorem D5z {d:Nat} {l:LU8} (h:(A5m (A0p (ps0 d) l)).2.1=0):wt (A5m (A0p (ps0 d) l)).1<=33024*l.length:=by
 have hr:=B0w d l;cases a:B1g d l with
 |ok n its p=>
  rw[a]at hr;simp only at hr;rw[hr.2];exact F2y a
 |wrong n p=>
  rw[a]at hr;simp only at hr;exfalso;have b:=(A9z hr).1;rw[hr]at h;exact b h
 |ended late=>
  rw[a]at hr;simp only at hr;rw[hr.2]at h;exfalso;cases late<;>cases h
theorem D6a {d:Nat} {l:LU8} (h:(A5m (A0p (ps0 d) l)).2.1=0):ws (A5m (A0p (ps0 d) l)).1<=4*l.length:=by
 have hr:=B0w d l;cases a:B1g d l with
 |ok n its p=>
  rw[a]at hr;simp only at hr;rw[hr.2];exact F3a a
 |wrong n p=>
  rw[a]at hr;simp only at hr;exfalso;have b:=(A9z hr).1;rw[hr]at h;exact b h
 |ended late=>
  rw[a]at hr;simp only at hr;rw[hr.2]at h;exfalso;cases late<;>cases h
noncomputable def B7u (depth indent:Int) (so:Bool) (l:LU8):LU8×Int×Nat:=
 if depth<1\/1000<depth\/indent< -1\/16<indent then([],1,0)
 else if(A5m (A0p (ps0 depth.toNat) l)).2.1≠0 then([],((A5m (A0p (ps0 depth.toNat) l)).2.1:Int),(A5m (A0p (ps0 depth.toNat) l)).2.2)
 else(wrD indent so 1000 (ims (A5m (A0p (ps0 depth.toNat) l)).1),0,(A5m (A0p (ps0 depth.toNat) l)).2.2)
theorem D6b {d:Nat} {l:LU8} {indent:Int} {so:Bool} (b:d<=1000) (e:¬(indent< -1\/16<indent)) (h:(A5m (A0p (ps0 d) l)).2.1=0):F5t (ims (A5m (A0p (ps0 d) l)).1) indent so=(wrD indent so 1000 (ims (A5m (A0p (ps0 d) l)).1),0):=by
 obtain⟨g,c,_⟩:=B3z h;have a:A0i d (ims (A5m (A0p (ps0 d) l)).1)≠0:=by rw[c];simpa using g
 have f:A0i 1000 (ims (A5m (A0p (ps0 d) l)).1)=(ims (A5m (A0p (ps0 d) l)).1).length:=by rw[B2b d 1000 _ a b,c,A2p]
 unfold F5t;rw[if_neg e,if_neg];rintro(h|h)
 ·rw[B2b d 1000 _ a b]at h;exact a h
 ·exact h f
theorem C2e (d:Int) (h:d<1\/1000<d) (w:World):Calls Tryz.prog 30 #[.int .i64 d] w λe w'=>e=.returned (.tuple #[.pointer none,.int .i64 1])/\w'=w:=by
 rcases h with h|h
 ·have a:decide (d<1)=true:=dcT h
  go_enter Tryz.func30,Tryz.ntmps30;go_wp2;go_ret2;exact⟨rfl,rfl⟩
 ·have a:decide (d<1)=false:=dcF (by omega)
  have b:decide ((1000:Int)<d)=true:=dcT h;go_enter Tryz.func30,Tryz.ntmps30;go_wp2;go_ret2;exact⟨rfl,rfl⟩
theorem F8v (w:World) (v:Value) (a indent:Int) (so:Bool) (h:a<1\/1000<a\/indent< -1\/16<indent):
 Calls Tryz.prog 16 #[v,.int .i64 a,.int .i64 indent,.bool so] w λe w'=>e=.returned (.agg #[.string (ofL []),.int .i64 1,.int .i64 0])/\Fr (λ_=>False) w w':=by
 by_cases f:a<1\/1000<a
 ·have i:=hid (λw=>C2e a f w)
  clear h f;go_enter Tryz.func16,Tryz.ntmps16
  go_wp2_with (first|(b 30;refine Calls.mono (i.out _) ?_;rintro e k ⟨rfl,j⟩;have c:=j.symm;subst c)|fail)
  go_returns
  exact⟨rfl,(Fr.refl _ w).alloc _⟩
 ·have g:1<=a/\a<=1000:=by omega
  obtain⟨d,rfl⟩:∃d:Nat,a=d:=⟨a.toNat,by omega⟩;have i:=hid (λw=>B4w d (by omega) (by omega) w);have l:=hid (λw=>F5u indent w (by omega));clear h f g;go_enter Tryz.func16,Tryz.ntmps16
  go_wp2_with (first|(b 30;refine Calls.mono (i.out _) ?_;rintro e k ⟨rfl,rfl⟩)|(b 24;refine Calls.mono (l.out _) ?_;rintro e k ⟨rfl,rfl⟩)|fail)
  go_returns
  exact⟨rfl,((Fr.refl _ w).alloc _).alloc _⟩
def A2v (cs:List (LU8)):LU8:=cs.flatten
theorem D0q {a:List (LU8)} {i:Nat} {s:LU8} (h:a[i]? =some s):A2v (a.take (i+1))=A2v (a.take i)++s:=by
 have b:=(List.getElem?_eq_some_iff.1 h).1;have c:=(List.getElem?_eq_some_iff.1 h).2;unfold A2v;rw[List.take_succ_eq_append_getElem b,c,List.flatten_append];simp
theorem E6y (a:List (LU8)) (i:Nat):(A2v (a.take i)).length<=(A2v a).length:=by
 unfold A2v
 conv=>rhs;rw[<-List.take_append_drop i a,List.flatten_append,List.length_append]
 omega
theorem Rd.frm {B:Nat} {S:Nat->Prop} {w0 w:World} {R:Except (Nat×Nat) Ps} (h:Rd B S w0 w R):Fr S w0 w:=by
 cases R with
 |error x=>obtain⟨n,c⟩:=x;exact h.2
 |ok s=>obtain⟨f,d,b,e,⟨_,a,_⟩,_⟩:=h;exact a
theorem TR.at_ {w:World} {b:Addr} {d:List (LU8)} (h:TR w (some b) d) {i:Nat} {s:LU8} (c:d[i]? =some s):w.cell? (b.add i)=some (.string (ofL s)):=by
 obtain⟨a,e,_,f⟩:=h (by rintro rfl;simp at c);obtain rfl:b=a:=by simpa using e
 exact f i s c
theorem D6c {d:World} {g:Nat} {e j f:Value} (h:d.heap[g]? =some (.cells #[e,j,f] 42 (0,0))) (a b c:Value):(((d.setCell ⟨g,0,none⟩ a).setCell ⟨g,1,none⟩ b).setCell ⟨g,2,none⟩ c).heap[g]? =some (.cells #[a,b,c] 42 (0,0)):=by
 have i:=heap_setCell_same d g 0 _ 42 a h;have k:=heap_setCell_same _ g 1 _ 42 b i;exact heap_setCell_same _ g 2 _ 42 c k
theorem G2w (w:World) (pa:Option Addr) (cap d:Nat) (o:List (LU8)) (indent:Int) (so:Bool) (h:TR w pa o) (hT:C0f w) (P:1<=d) (u:d<=1000) (b8: -1<=indent) (b0:indent<=16) (hl:(A2v o).length<=1400000) (hn:o.length<=10000000):
 Calls Tryz.prog 16 #[.slice pa o.length cap,.int .i64 (d:Int),.int .i64 indent,.bool so] w λe w'=>e=.returned (.agg #[.string (ofL (B7u d indent so (A2v o)).1),.int .i64 (B7u d indent so (A2v o)).2.1,.int .i64 ((B7u d indent so (A2v o)).2.2:Int)])/\Fr (λ_=>False) w w':=by
 obtain⟨AN,J⟩:∃AN,B7u d indent so (A2v o)=AN:=⟨_,rfl⟩;rw[J];have a9:=hid J;have HN:=hid (λw=>B4w d P u w);have HM:=hid (λw=>D3g indent w b8 b0);have a4:=hid h;have b7:=hid hT;have a0:=hid (λ(B:Nat) (w0 wx:World) (l a:LU8) (hx:l.length+a.length<=1500000) (hr:Rd B (λ_=>False) w0 wx (A0p (ps0 d) l))=>F3i B d (λ_=>False) w0 wx l a P u hx hr);have a1:=hid (λ(B:Nat) (w0 wx:World) (hB:w0.heap.size<=B) (hr:Rd B (λ_=>False) w0 wx (A0p (ps0 d) (A2v o)))=>E4d B d (λ_=>False) w0 wx (A2v o) P u (by omega) (.inr hB) hr);have a5:=hid (λw1=>G2u d w1);have a7:=hid hl;clear h hT J hl;obtain⟨n,b9⟩:∃n,o.length=n:=⟨_,rfl⟩;rw[b9]at hn ⊢;go_enter Tryz.func16,Tryz.ntmps16
 go_wp2_with (first|(k 30;refine Calls.mono (HN.out _) ?_;rintro e w2 ⟨rfl,rfl⟩)|(k 24;refine Calls.mono (HM.out _) ?_;rintro e w2 ⟨rfl,b5⟩;subst b5)|fail)
 have Y:Hid ((w.alloc (.cells #[.string ⟨#[]⟩,.int .i64 0,.int .i64 0] 42)).heap.size=w.heap.size+1):=hid (by simp);have O:=a5.out (w.alloc (.cells #[.string ⟨#[]⟩,.int .i64 0,.int .i64 0] 42));rw[Y.out]at O;have a3:=hid O;clear O a5
 go_loopw [31] (λiv wr=>∃i:Nat,iv=.int .i64 (i:Int)/\i<=n/\Hid (Rd (w.heap.size+1) (λ_=>False) (w.alloc (.cells #[.string ⟨#[]⟩,.int .i64 0,.int .i64 0] 42)) wr (A0p (ps0 d) (A2v (o.take i))))) (λiv _=>n-(intOf iv).toNat)
 case atStart=>exact⟨0,rfl,Nat.zero_le _,a3⟩
 case round=>
  clear a3 HN HM;obtain⟨i,rfl,c2,hR⟩:=hrel;have b6:=hid (((Fr.refl (λ_=>False) w).alloc (.cells #[.string ⟨#[]⟩,.int .i64 0,.int .i64 0] 42)).trans hR.frm);by_cases hi:i<n
  ·have hz:(i:Int)<(n:Int):=by omega
   obtain⟨s,hs⟩:∃s,o[i]? =some s:=⟨_,List.getElem?_eq_getElem (by omega)⟩;obtain⟨ad,b2,-⟩:=a4.out (by rintro rfl;simp at hs);subst b2;have c0:=(a4.fr b6.out).at_ hs;have H:=D0q hs;have a2:=E6y o (i+1);rw[H,List.length_append]at a2;have T:=hid (a0.out _ _ wr (A2v (o.take i)) s (by have:=a7.out;omega) hR.out);rw[<-H]at T;clear hs H a2
   go_wp2_with (first|(k 31;refine Calls.mono T.out ?_;rintro e w2 ⟨rfl,hr⟩;have b1:=hid hr;clear hr)|fail)
   go_roundw
   case rel=>exact⟨i+1,by simp,by omega,b1⟩
   case measure=>simp only[intOf];omega
  ·obtain rfl:i=n:=by omega
   have hz:¬(i:Int)<(i:Int):=by omega
   have D:o.take i=o:=List.take_of_length_le (by omega);have M:=hR.out;rw[D]at M;have T:=hid (a1.out _ _ wr (by rw[Y.out];exact Nat.le_refl _) M);obtain⟨f,t⟩:∃f,A5m (A0p (ps0 d) (A2v o))=f:=⟨_,rfl⟩;have p:=hid t;rw[t]at T;clear t M hR D a1 a0
   go_wp2_with fail
   refine Calls.mono T.out ?_;rintro e S ⟨V,rfl,z,-,Q⟩;have L:=hid (((Fr.refl (λ_=>False) w).alloc (.cells #[.string ⟨#[]⟩,.int .i64 0,.int .i64 0] 42)).trans Q);have K:=Q.heap (heap_alloc_new w (.cells #[.string ⟨#[]⟩,.int .i64 0,.int .i64 0] 42)) id;have r0:S.cell? ⟨w.heap.size,0,none⟩=some (.string ⟨#[]⟩):=A0a K rfl;have r1:S.cell? ⟨w.heap.size,1,none⟩=some (.int .i64 0):=A0a K rfl;have r2:S.cell? ⟨w.heap.size,2,none⟩=some (.int .i64 0):=A0a K rfl;have rf:∀j,S.frozen? ⟨w.heap.size,j,none⟩=false:=λ_=>A0b K
   have y:=hid (λa b c=>D6c K a b c);have a6:=hid K;have m:=hid z;clear z Q K T;by_cases U:f.2.1=0
   ·have c1:((f.2.1:Int)!=0)=false:=by simp[U]
    have r:(A5m (A0p (ps0 d) (A2v o))).2.1=0:=by rw[p.out];exact U
    have I:=D6b (so:=so) u (show¬(indent< -1\/16<indent) by omega) r;have W:=D5z r;have X:=D6a r;have a8:=F5s f.1;obtain⟨v1,v2,v3⟩:=B3z r;rw[p.out]at I W X v1 v2 v3;obtain⟨p1,p2⟩:=D5s f.1;have b4:=a7.out;obtain⟨va,vn,vc,rfl⟩:=A0h m.out;have N:=A1a m.out;have Z:0<f.1.length:=by cases hq:f.1 with|nil=>exact absurd hq v1|cons _ _=>simp
    obtain⟨g,rfl⟩:=A5s m.out (by omega)
    have C:B9r S (.slice (some ⟨g,0,none⟩) (ims f.1).length vc) (ims f.1):=by
     unfold B9r;rw[G2v,A2p];rw[N]at m;exact m.out
    have F:=hid (D9u S g vc (ims f.1) indent so C (b7.fr L.out id id) (by rw[A2p];omega) (λx hx=>by have:=a8 x hx;omega) v3 (by show wt f.1<=_;omega));rw[I,A2p,<-N]at F
    have HA:=hid (show AN=(wrD indent so 1000 (ims f.1),0,f.2.2) by
     rw[<-a9.out];unfold B7u
     rw[if_neg (by omega),Int.toNat_natCast,p.out,if_neg (by omega)])
    generalize wrD indent so 1000 (ims f.1)=TX at*;generalize f.2.1=E at*;generalize f.2.2=A at*;subst U;clear I W X a8 v1 v2 v3 p1 p2 b4 C Z N m r
    go_wp2_with fail
    refine Calls.mono F.out ?_;rintro e w4 ⟨rfl,R⟩;have q:=R.heap a6.out id;have q0:w4.cell? ⟨w.heap.size,0,none⟩=some (.string ⟨#[]⟩):=A0a q rfl;have q1:w4.cell? ⟨w.heap.size,1,none⟩=some (.int .i64 0):=A0a q rfl;have q2:w4.cell? ⟨w.heap.size,2,none⟩=some (.int .i64 0):=A0a q rfl;have qf:∀j,w4.frozen? ⟨w.heap.size,j,none⟩=false:=λ_=>A0b q
    have G:=hid (λa b c=>D6c q a b c);have b3:=hid (L.trans R);clear q R r0 r1 r2 rf y a6 F;go_wp2
    (try simp only[Exit.inBlock,Exit.then])
    refine bodyPost_ret (v:=.agg #[.string (ofL TX),.int .i64 0,.int .i64 (A:Int)]) (results_cell_row rfl _ _ w.heap.size 42 _ (0,0) _ rfl (G.out _ _ _) Tryz.underlying42 rfl (by kernel_rfl)) rfl ?_;rw[HA.out];exact⟨rfl,B0k b3.out _ _ _⟩
   ·have c1:((f.2.1:Int)!=0)=true:=by simp[U]
    have HA:=hid (show AN=([],(f.2.1:Int),f.2.2) by
     rw[<-a9.out];unfold B7u
     rw[if_neg (by omega),Int.toNat_natCast,p.out,if_pos U])
    generalize f.2.1=E at*;generalize f.2.2=A at*;clear U;go_wp2
    (try simp only[Exit.inBlock,Exit.then])
    refine bodyPost_ret (v:=.agg #[.string ⟨#[]⟩,.int .i64 (E:Int),.int .i64 (A:Int)]) (results_cell_row rfl _ _ w.heap.size 42 _ (0,0) _ rfl (y.out _ _ _) Tryz.underlying42 rfl (by kernel_rfl)) rfl ?_;rw[HA.out];exact⟨rfl,B0k L.out _ _ _⟩
def D9w {α:Type} (B:Nat) (w0:World) (l:LU8) (inn d:Nat) (vi:Value) (its:List It) (good:α->Value) (bad:Value) (U:RO α) (x:Ending) (w':World):Prop:=
 match U with
 |.ok a q=>x=.returned (good a)/\SC B w0 w' l q inn d vi its 0 false false
 |.wrong n q=>x=.returned bad/\SC B w0 w' l q inn d vi its n false false
 |.ended=>x=.returned bad/\SC B w0 w' l [] inn d vi its 0 true false
def E6z (m:Nat):Value:=.tuple #[.int .i64 (m:Int),.bool true]
def G2x:Value:=.tuple #[.int .i64 0,.bool false]
theorem A7z {a:Bool} {k n h:Nat} {c:UInt8} {r:LU8} (e:B5v c=some h) (b:¬(a=true/\((k=3/\16*n+h≠13)\/(k=2/\16*n+h<220)))) (d:¬(a=false/\k=2/\220<=16*n+h/\16*n+h<224)):A1m a (k+1) n (c::r)=A1m a k (16*n+h) r:=by
 rw[A1m,e];simp only;rw[if_neg b,if_neg d]
theorem C6z {a:Bool} {k n h:Nat} {c:UInt8} {r:LU8} (d:B5v c=some h) (b:(a=true/\((k=3/\16*n+h≠13)\/(k=2/\16*n+h<220)))\/(a=false/\k=2/\220<=16*n+h/\16*n+h<224)):A1m a (k+1) n (c::r)=.wrong 5 (c::r):=by
 rw[A1m,d];simp only;rcases b with b|b
 ·rw[if_pos b]
 ·rw[if_neg (by rintro⟨h,_⟩;rw[b.1]at h;cases h),if_pos b]
theorem E7a {a:Bool} {k n:Nat} {c:UInt8} {r:LU8} (b:B5v c=none):A1m a (k+1) n (c::r)=.wrong 3 (c::r):=by
 rw[A1m,b]
theorem D6d (v:Bool) (B:Nat) (w0 w:World) (l p:LU8) (inn d:Nat) (o:Value) (its:List It) (hl:l.length<=100000000) (h:SC B w0 w l p inn d o its 0 false false):
 Calls Tryz.prog 188 #[.pointer (some ⟨B,0,none⟩),.bool v] w (D9w B w0 l inn d o its E6z G2x (A1m v 4 0 p)):=by
 have H:=hid h;clear h;obtain⟨U,O⟩:∃U,A1m v 4 0 p=U:=⟨_,rfl⟩;rw[O];have R:=hid O;clear O;go_enter Tryz.func188,Tryz.ntmps188;go_wp2
 go_loopw [6,7] (λnn i wr=>∃(k n:Nat) (p':LU8),k<=4/\n<65536/\Hid (n<16^k)/\nn=.int .i64 n/\i=.int .i64 k/\Hid (SC B w0 wr l p' inn d o its 0 false false)/\Hid (A1m v (4-k) n p'=U)) (λ_ i _=>4-(intOf i).toNat)
 case atStart=>exact⟨0,0,p,by omega,by omega,hid (by decide),rfl,rfl,H,R⟩
 case round=>
  obtain⟨k,n,p',P,Z,T,rfl,rfl,I,b⟩:=hrel;by_cases W:k<4
  ·cases p' with
   |nil=>
    rw[show 4-k=(3-k)+1 by omega,A1m]at b;have M:=hid (B0y B w0 wr l inn d o its 0 false false I.out)
    go_wp2_with fail
    refine Calls.mono M.out ?_;rintro x L ⟨rfl,m⟩;have A:=hid m;clear m;go_wp2;go_ret2;rw[<-b.out];exact⟨rfl,A.out⟩
   |cons c q=>
    have K:=A0c l;have M:=hid (A7v B w0 wr l c q inn d o its 0 false false I.out);have F:=hid (λw=>F1b c w);rw[show 4-k=(3-k)+1 by omega]at b;cases E:B5v c with
    |none=>
     rw[E7a E]at b;rw[E]at F
     change Hid (∀w,Calls Tryz.prog 215 #[.int .u8 (c.toNat:Int)] w λx w'=>x=.returned (.int .i64 (-1))/\w'=w)at F
     clear E
     go_wp2_with fail
     refine Calls.mono M.out ?_;rintro x J ⟨rfl,y⟩;have f:SC B w0 J l (c::q) inn d o its 0 false false:=y▸I.drew;clear y;obtain⟨D,G⟩:=A3i f.suf;have Y:=A0a f.blk (show(A0e l (l.length-(c::q).length) inn d o 0 false false)[0]? =some (.string (ofL l))from rfl);have V:=A0a f.blk (show(A0e l (l.length-(c::q).length) inn d o 0 false false)[1]? =some (.int .i64 ((l.length-(c::q).length:Nat):Int))from rfl);have S:=A0b (j:=1) f.blk;have Q:(ofL l)[l.length-(c::q).length]'(by rw[K];exact D)=c:=(A1d l _ _).trans G;have g:=hid (λn=>(f.drewN n).step);have t:=hid (λn e=>A2m B w0 (J.drewN n) l (c::q) inn d o its 0 e false false (f.drewN n));generalize l.length-(c::q).length=pos at*;clear G f;go_wp2;go_quiet ((go_at_call 215;exact Calls.quiet_of_same (F.out _)))
     go_wp2_with fail
     refine Calls.mono (t.out _ 3) ?_;rintro x L ⟨rfl,m⟩;have A:=hid m;clear m;go_wp2;go_ret2;rw[<-b.out];exact⟨rfl,A.out⟩
    |some h=>
     have hh:=A6i E;rw[E]at F
     change Hid (∀w,Calls Tryz.prog 215 #[.int .u8 (c.toNat:Int)] w λx w'=>x=.returned (.int .i64 (h:Int))/\w'=w)at F
     have r:=hid E;clear E
     go_wp2_with fail
     refine Calls.mono M.out ?_;rintro x J ⟨rfl,y⟩;have f:SC B w0 J l (c::q) inn d o its 0 false false:=y▸I.drew;clear y;obtain⟨D,G⟩:=A3i f.suf;have Y:=A0a f.blk (show(A0e l (l.length-(c::q).length) inn d o 0 false false)[0]? =some (.string (ofL l))from rfl);have V:=A0a f.blk (show(A0e l (l.length-(c::q).length) inn d o 0 false false)[1]? =some (.int .i64 ((l.length-(c::q).length:Nat):Int))from rfl);have S:=A0b (j:=1) f.blk;have Q:(ofL l)[l.length-(c::q).length]'(by rw[K];exact D)=c:=(A1d l _ _).trans G;have g:=hid (λn=>(f.drewN n).step);have t:=hid (λn e=>A2m B w0 (J.drewN n) l (c::q) inn d o its 0 e false false (f.drewN n));generalize l.length-(c::q).length=pos at*;clear G f;go_wp2;go_quiet ((go_at_call 215;exact Calls.quiet_of_same (F.out _)));have z:16*n+h<16^(k+1):=by rw[Nat.pow_succ];have:=T.out;omega
     have s:k=0\/k=1\/k=2\/k=3:=by omega
     have X:16*n+h<65536:=Nat.lt_of_lt_of_le z (by rcases s with rfl|rfl|rfl|rfl<;>decide);clear W P;cases v with
     |true=>
      rcases s with rfl|rfl|rfl|rfl
      ·by_cases C:16*n+h=13
       ·have u:((16*(n:Int)+(h:Int))!=13)=false:=by rw[show(16*(n:Int)+(h:Int))=13 by omega];rfl
        rw[A7z r.out (by rintro⟨_,⟨_,a⟩|⟨a,_⟩⟩;exact a C;omega) (by rintro⟨a,_⟩;cases a)]at b;go_wp2;go_roundw
        case rel=>exact⟨1,16*n+h,q,by omega,by omega,hid z,by go_num,by go_num,hid (g.out _),b⟩
        case measure=>simp[intOf]
       ·have u:((16*(n:Int)+(h:Int))!=13)=true:=bne_iff_ne.2 (by omega)
        rw[C6z r.out (.inl ⟨rfl,.inl ⟨rfl,C⟩⟩)]at b
        go_wp2_with fail
        refine Calls.mono (t.out _ 5) ?_;rintro x L ⟨rfl,m⟩;have A:=hid m;clear m;go_wp2;go_ret2;rw[<-b.out];exact⟨rfl,A.out⟩
      ·by_cases C:16*n+h<220
       ·have u:decide ((16*(n:Int)+(h:Int))<220)=true:=dcT (by omega)
        rw[C6z r.out (.inl ⟨rfl,.inr ⟨rfl,C⟩⟩)]at b
        go_wp2_with fail
        refine Calls.mono (t.out _ 5) ?_;rintro x L ⟨rfl,m⟩;have A:=hid m;clear m;go_wp2;go_ret2;rw[<-b.out];exact⟨rfl,A.out⟩
       ·have u:decide ((16*(n:Int)+(h:Int))<220)=false:=dcF (by omega)
        rw[A7z r.out (by rintro⟨_,⟨a,_⟩|⟨_,a⟩⟩;omega;exact C a) (by rintro⟨a,_⟩;cases a)]at b;go_wp2;go_roundw
        case rel=>exact⟨2,16*n+h,q,by omega,by omega,hid z,by go_num,by go_num,hid (g.out _),b⟩
        case measure=>simp[intOf]
      ·skip
       rw[A7z r.out (by rintro⟨_,⟨a,_⟩|⟨a,_⟩⟩<;>omega) (by rintro⟨a,_⟩;cases a)]at b;go_wp2;go_roundw
       case rel=>exact⟨3,16*n+h,q,by omega,by omega,hid z,by go_num,by go_num,hid (g.out _),b⟩
       case measure=>simp[intOf]
      ·skip
       rw[A7z r.out (by rintro⟨_,⟨a,_⟩|⟨a,_⟩⟩<;>omega) (by rintro⟨a,_⟩;cases a)]at b;go_wp2;go_roundw
       case rel=>exact⟨4,16*n+h,q,by omega,by omega,hid z,by go_num,by go_num,hid (g.out _),b⟩
       case measure=>simp[intOf]
     |false=>
      rcases s with rfl|rfl|rfl|rfl
      ·skip
       rw[A7z r.out (by rintro⟨a,_⟩;cases a) (by rintro⟨_,a,_⟩;omega)]at b;go_wp2;go_roundw
       case rel=>exact⟨1,16*n+h,q,by omega,by omega,hid z,by go_num,by go_num,hid (g.out _),b⟩
       case measure=>simp[intOf]
      ·by_cases C:220<=16*n+h
       ·have u:decide (220<=(16*(n:Int)+(h:Int)))=true:=dcT (by omega)
        by_cases hr:16*n+h<224
        ·have N:decide ((16*(n:Int)+(h:Int))<224)=true:=dcT (by omega)
         rw[C6z r.out (.inr ⟨rfl,rfl,C,hr⟩)]at b
         go_wp2_with fail
         refine Calls.mono (t.out _ 5) ?_;rintro x L ⟨rfl,m⟩;have A:=hid m;clear m;go_wp2;go_ret2;rw[<-b.out];exact⟨rfl,A.out⟩
        ·have N:decide ((16*(n:Int)+(h:Int))<224)=false:=dcF (by omega)
         rw[A7z r.out (by rintro⟨a,_⟩;cases a) (by rintro⟨_,_,_,a⟩;exact hr a)]at b;go_wp2;go_roundw
         case rel=>exact⟨2,16*n+h,q,by omega,by omega,hid z,by go_num,by go_num,hid (g.out _),b⟩
         case measure=>simp[intOf]
       ·have u:decide (220<=(16*(n:Int)+(h:Int)))=false:=dcF (by omega)
        rw[A7z r.out (by rintro⟨a,_⟩;cases a) (by rintro⟨_,_,a,_⟩;exact C a)]at b;go_wp2;go_roundw
        case rel=>exact⟨2,16*n+h,q,by omega,by omega,hid z,by go_num,by go_num,hid (g.out _),b⟩
        case measure=>simp[intOf]
      ·skip
       rw[A7z r.out (by rintro⟨a,_⟩;cases a) (by rintro⟨_,a,_⟩;omega)]at b;go_wp2;go_roundw
       case rel=>exact⟨3,16*n+h,q,by omega,by omega,hid z,by go_num,by go_num,hid (g.out _),b⟩
       case measure=>simp[intOf]
      ·skip
       rw[A7z r.out (by rintro⟨a,_⟩;cases a) (by rintro⟨_,a,_⟩;omega)]at b;go_wp2;go_roundw
       case rel=>exact⟨4,16*n+h,q,by omega,by omega,hid z,by go_num,by go_num,hid (g.out _),b⟩
       case measure=>simp[intOf]
  ·obtain rfl:k=4:=by omega
   rw[Nat.sub_self,A1m]at b;go_wp2;go_ret2;rw[<-b.out];exact⟨rfl,I.out⟩
end Go.Proofs.YtmkkibaacclhnaaGreatDoor
