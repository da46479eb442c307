/-
  Part Sd.
-/
import Derived.Test.YtmkkibaacclhnaaGreatDoorVc
import Derived.Test.YtmkkibaacclhnaaGreatDoorVb
import Derived.Test.YtmkkibaacclhnaaGreatDoorWw
import Derived.Test.YtmkkibaacclhnaaGreatDoorSb
import Derived.Test.YtmkkibaacclhnaaGreatDoorYe
import Derived.Handy
import Derived.Test.YtmkkibaacclhnaaGreatDoorWf
namespace Go.Proofs.YtmkkibaacclhnaaGreatDoor
open Go.RowKit
set_option maxRecDepth 100000
set_option maxHeartbeats 40000000
theorem G2r (d:Nat):G4p d:=by
 induction d with
 |zero=>
  intro w y cap inn l indent so v h c u i q p f g a j;cases l with
  |nil=>exact absurd rfl a
  |cons x r=>
   obtain⟨m,rfl,_⟩:=h (by simp);simp only[A0i]at a;by_cases e:A0z x=true/\x.k<5
   ·rw[show wrD indent so 0 (x::r)=B3v x from by simp only[wrD]]
    exact E6s w m cap inn x r indent so h (q x (by simp)) e.2 e.1 (p x (by simp))
   ·rw[if_neg e]at a
    exact absurd rfl a
 |succ d ih=>
  intro w y cap inn l indent so v h c u i q p f g a j;cases l with
  |nil=>exact absurd rfl a
  |cons x r=>
   obtain⟨m,rfl,_⟩:=h (by simp);by_cases e:A0z x=true
   ·by_cases t:x.k<5
    ·rw[show wrD indent so (d+1) (x::r)=B3v x from by simp only[wrD];rw[if_pos t]]
     exact E6s w m cap inn x r indent so h (q x (by simp)) t e (p x (by simp))
    ·obtain⟨k,n,b,s⟩:=x
     obtain⟨o,_⟩:=A5i e t;simp only at o t;rcases o with rfl|rfl
     ·exact G2p d ih w m cap inn n b s r indent so v h c u i q p f g e a j
     ·exact G2q d ih w m cap inn n b s r indent so v h c u i q p f g e a j
   ·exfalso
    simp only[A0i]at a;rw[if_neg e]at a;exact a rfl
noncomputable def F5t (l:List Im) (indent:Int) (so:Bool):LU8×Int:=
 if indent< -1\/16<indent then([],1)else if A0i 1000 l=0\/A0i 1000 l≠l.length then([],8)else(wrD indent so 1000 l,0)
theorem D9q (w:World) (f:Option Addr) (cap:Nat) (l:List Im) (indent:Int) (so:Bool) (h:LR w f l) (c:l.length<=cap) (y:cap<=9223372036854775807) (q:l.length<=10000000) (r:∀x,x∈l->x.s.length<=100000000) (v:Bok l) (k:wgt l<=100000000000):
 Calls Tryz.prog 28 #[.slice f l.length cap,.int .i64 indent,.bool so] w λe w'=>e=.returned (.tuple #[.string (ofL (F5t l indent so).1),.int .i64 (F5t l indent so).2])/\Fr (λ_=>False) w w':=by
 unfold F5t;have u:=hid (Fr.refl (λ_=>False) w);by_cases g:indent< -1
 ·rw[if_pos (.inl g)]
  have E:decide (indent< -1)=true:=dcT g;clear h;go_enter Tryz.func28,Tryz.ntmps28;go_wp2;go_ret2;exact⟨rfl,u.out⟩
 have F:decide (indent< -1)=false:=dcF g;by_cases i:16<indent
 ·rw[if_pos (.inr i)]
  have E:decide (16<indent)=true:=dcT i;clear h;go_enter Tryz.func28,Tryz.ntmps28;go_wp2;go_ret2;exact⟨rfl,u.out⟩
 have G:decide (16<indent)=false:=dcF i;rw[if_neg (λhh=>hh.elim g i)];have d:=hid (show Calls Tryz.prog 46 #[.slice f l.length cap,.int .i64 0] w _ from C6a 1000 w f cap 0 l rfl h c y r);have p:=hid (λ(wx:World) (hf:Fr (λ_=>False) w wx) (hsz:A0i 1000 l≠0)=>(show Calls Tryz.prog 47 #[.slice f l.length cap,.int .i64 indent,.bool so,.int .i64 0] wx _ from G2r 1000 wx f cap 0 l indent so rfl (h.fr hf) c y q r v (by omega) (by omega) hsz k));have D:=A5w 1000 l;generalize A0i 1000 l=z at*;generalize wrD indent so 1000 l=T at*;generalize l.length=L at*;clear h r v k g i;by_cases m:z=0
 ·subst m
  rw[if_pos (.inl rfl)];go_enter Tryz.func28,Tryz.ntmps28
  go_wp2_with fail
  refine Calls.mono d.out ?_;rintro e t ⟨rfl,a⟩;have b:=hid a;clear a;go_wp2;go_ret2;exact⟨rfl,b.out⟩
 have A:((z:Int)==0)=false:=bqF (by omega);by_cases n:z=L
 ·subst n
  rw[if_neg (by omega)];go_enter Tryz.func28,Tryz.ntmps28
  go_wp2_with fail
  refine Calls.mono d.out ?_;rintro e t ⟨rfl,a⟩;have b:=hid a;clear a
  go_wp2_with fail
  refine Calls.mono (p.out t b.out m) ?_;rintro e H ⟨rfl,j⟩;have o:=hid (b.trans j);clear j;go_wp2;go_ret2;exact⟨rfl,o.out⟩
 ·rw[if_pos (.inr n)]
  have B:((z:Int)!=(L:Int))=true:=by simp;omega
  have C:((z:Int)==(L:Int))=false:=bqF (by omega);go_enter Tryz.func28,Tryz.ntmps28
  go_wp2_with fail
  refine Calls.mono d.out ?_;rintro e t ⟨rfl,a⟩;have b:=hid a;clear a;go_wp2;go_ret2;exact⟨rfl,b.out⟩
theorem D3g (indent:Int) (w:World) (a: -1<=indent) (b:indent<=16):Calls Tryz.prog 24 #[.int .i64 indent] w λe w'=>e=.returned (.bool true)/\w'=w:=by
 have c:decide (-1<=indent)=true:=dcT a;have d:decide (indent<=16)=true:=dcT b;go_enter Tryz.func24,Tryz.ntmps24;go_wp2;go_ret;exact⟨rfl,rfl⟩
theorem F5u (indent:Int) (w:World) (h:indent< -1\/16<indent):Calls Tryz.prog 24 #[.int .i64 indent] w λe w'=>e=.returned (.bool false)/\w'=w:=by
 rcases h with h|h
 ·have a:decide (-1<=indent)=false:=dcF (by omega)
  go_enter Tryz.func24,Tryz.ntmps24;go_wp2;go_ret;exact⟨rfl,rfl⟩
 ·have a:decide (-1<=indent)=true:=dcT (by omega)
  have b:decide (indent<=16)=false:=dcF (by omega);go_enter Tryz.func24,Tryz.ntmps24;go_wp2;go_ret;exact⟨rfl,rfl⟩
theorem D9r (w:World) (v:Value) (indent:Int) (so:Bool) (h:indent< -1\/16<indent):
 Calls Tryz.prog 8 #[v,.int .i64 indent,.bool so] w λe w'=>e=.returned (.tuple #[.string (ofL []),.int .i64 1])/\Fr (λ_=>False) w w':=by
 have b:=hid (λw=>F5u indent w h);have a:=hid (Fr.refl (λ_=>False) w);clear h;go_enter Tryz.func8,Tryz.ntmps8
 go_wp2_with (first|(go_at_call 24;refine Calls.mono (b.out _) ?_;rintro e c ⟨rfl,rfl⟩)|fail)
 go_ret2;exact⟨rfl,a.out⟩
theorem D9s (w:World) (a cap n:Nat) (indent:Int) (so:Bool) (g: -1<=indent) (h:indent<=16)
 (b:Calls Tryz.prog 25 #[.slice (some ⟨a,0,none⟩) n cap] w λe w'=>Fr (λ_=>False) w w'/\∃(k m:Nat),e=.returned (.tuple #[.agg #[.slice (some ⟨a,0,none⟩) n cap,.slice (some ⟨k,0,none⟩) n n,.int .i64 (m:Int)],.bool false])):
 Calls Tryz.prog 8 #[.slice (some ⟨a,0,none⟩) n cap,.int .i64 indent,.bool so] w λe w'=>e=.returned (.tuple #[.string (ofL []),.int .i64 8])/\Fr (λ_=>False) w w':=by
 have f:=hid (λw=>D3g indent w g h);have H:=hid b;clear b;go_enter Tryz.func8,Tryz.ntmps8
 go_wp2_with (first|(go_at_call 24;refine Calls.mono (f.out _) ?_;rintro e j ⟨rfl,rfl⟩)|fail)
 refine Calls.mono H.out ?_;rintro e i ⟨c,k,m,rfl⟩;have d:=hid (λo=>c.alloc o);clear c;go_wp2;go_ret2;exact⟨rfl,d.out _⟩
theorem PIn.first {w b:World} {c cap:Nat} {its:List Im} {g:Nat} {beh:List Nat} {v:Value} (i:B9r w (.slice (some ⟨c,0,none⟩) its.length cap) its) (f:Fr (λ_=>False) w b) (h:OutOk w b c cap its v g beh) (o:Obj) (a:Int) (so:Bool):
 PIn ((b.alloc o).alloc (.cells #[.slice (some ⟨c,0,none⟩) its.length cap,.slice (some ⟨g,0,none⟩) its.length its.length,.int .i64 (its.length:Int),.int .i64 a,.bool so,.int .i64 0,.pointer none,.slice none 0 0] 69)) (b.heap.size+1) g c cap its beh its.length a so 0 (.pointer none) (.slice none 0 0) []:=by
 have d:=((Fr.refl (λ_=>False) b).alloc o).alloc (.cells #[.slice (some ⟨c,0,none⟩) its.length cap,.slice (some ⟨g,0,none⟩) its.length its.length,.int .i64 (its.length:Int),.int .i64 a,.bool so,.int .i64 0,.pointer none,.slice none 0 0] 69);have e:=heap_alloc_new (b.alloc o) (.cells #[.slice (some ⟨c,0,none⟩) its.length cap,.slice (some ⟨g,0,none⟩) its.length its.length,.int .i64 (its.length:Int),.int .i64 a,.bool so,.int .i64 0,.pointer none,.slice none 0 0] 69);rw[show(b.alloc o).heap.size=b.heap.size+1 by simp]at e;exact⟨⟨e,.inl rfl,⟨rfl,.inl ⟨rfl,rfl⟩⟩⟩,i.fr (f.trans d) (λ_ _=>id),A7e h.row d (λ_ _=>id),h.beh⟩
theorem E6v (w:World) (b cap:Nat) (its:List Im) (indent:Int) (so:Bool) (F:B9r w (.slice (some ⟨b,0,none⟩) its.length cap) its) (D: -1<=indent) (E:indent<=16) (R:its.length<=10000000) (J:∀x,x∈its->x.s.length<=100000000) (I:Bok its) (K:(wrD indent so 1000 its).length<=90000000000) (l:wrD indent so 1000 its≠[]) (L:A0i 1000 its=its.length) (u:its.length≠0)
 (C:Calls Tryz.prog 25 #[.slice (some ⟨b,0,none⟩) its.length cap] w λe w'=>Fr (λ_=>False) w w'/\∃v,e=.returned (.tuple #[v,.bool true])/\∃g beh,OutOk w w' b cap its v g beh):
 Calls Tryz.prog 8 #[.slice (some ⟨b,0,none⟩) its.length cap,.int .i64 indent,.bool so] w λe w'=>e=.returned (.tuple #[.string (ofL (wrD indent so 1000 its)),.int .i64 0])/\Fr (λ_=>False) w w':=by
 have O:=hid (λw=>D3g indent w D E);have H:=hid C;have N:=hid F;have a:=hid (λwx B g beh nx ad vo (hx:PIn wx B g b cap its beh nx indent so 0 ad vo [])=>E6r 1000 wx B g b cap its beh nx indent so 0 ad vo [] 0 hx rfl D E R J I (by rw[List.drop_zero,L];exact u) (by rw[List.drop_zero];simpa using K));simp only[List.drop_zero,List.nil_append]at a;have c:=hid (λB wx vi vb nx op ad vo (hx:WAt B wx vi vb nx indent so op ad vo (wrD indent so 1000 its))=>D9p B wx vi vb nx indent so op ad vo _ hx l (by omega));clear C F J I K l L;obtain⟨T,G⟩:∃T,wrD indent so 1000 its=T:=⟨_,rfl⟩;rw[G]at a c ⊢;clear G;go_enter Tryz.func8,Tryz.ntmps8
 go_wp2_with (first|(go_at_call 24;refine Calls.mono (O.out _) ?_;rintro e V ⟨rfl,y⟩;have z:=y.symm;subst z)|fail)
 refine Calls.mono H.out ?_;rintro e U ⟨m,v,rfl,g,beh,t⟩;have S:=t.val;subst S;have P:=hid (λo=>PIn.first N.out m t o indent so);have M:=hid m;have W:w.heap.size<=U.heap.size:=m.size;clear m t;generalize its.length=n at*
 go_wp2_with fail
 refine Calls.mono (a.out _ _ _ _ _ _ _ (P.out _)) ?_;rintro e V ⟨rfl,A,k,d,j⟩
 have p:=hid (((M.alloc _).alloc _).trans' d (by
  rintro i (rfl|h)
  ·exact .inr (by omega)
  ·simp[Value.ownBlock]at h))
 have r:=hid (show∀i,A.ownBlock=some i->w.heap.size<=i fromλi hi=>by
  rcases j i hi with h|h
  ·simp[Value.ownBlock]at h
  ·simp at h;omega)
 have Q:=hid (c.out _ _ _ _ _ _ _ _ k);clear k d j
 go_wp2_with fail
 refine Calls.mono Q.out ?_;rintro e X ⟨rfl,f⟩;have q:=hid (p.trans' f (λi hi=>.inr (r.out i hi)));clear f;go_wp2;go_ret2;exact⟨rfl,q.out⟩
theorem F3g:A3u 1 0 4607182418800017408:=by
 show Rnd (1*pP 0) (p10 0) 4607182418800017408
 unfold Rnd;decide+kernel
theorem F5v:mid 4607182418800017408<4*p2 1074:=by decide+kernel
theorem G2s:2*p2 1074<mid 4607182418800017407*10:=by decide+kernel
theorem E6w:4607182418800017408-1=4607182418800017407:=by omega
theorem D9t {D:Nat} {c:Int} (h:B1e 4607182418800017408 D c):D=1/\c=0:=by
 have hr:=h.rnd (by omega);have f:=hr.pos (by omega);have g:D*pP c=D*p10 c.toNat*p2 1074:=by rw[pP,Nat.mul_assoc]
 have u:=A2y 1074
 have q:c<=0:=by
  rcases Int.lt_or_le 0 c with d|d
  ·exfalso
   obtain⟨_,b⟩:=hr;rw[g,show(-c).toNat=0 by omega,show p10 0=1 from rfl,Nat.mul_one]at b;have e:=A3r 1 c.toNat (by omega);rw[show p10 1=10 from rfl]at e;have i:1*10<=D*p10 c.toNat:=Nat.mul_le_mul f e;have n:1*10*p2 1074<=D*p10 c.toNat*p2 1074:=Nat.mul_le_mul_right _ i;have:=F5v;omega
  ·exact d
 have p:0<=c:=by
  rcases Int.lt_or_le c 0 with d|d
  ·exfalso
   obtain⟨s,R,L,H,U,t,m,k⟩:=h;rcases k with rfl|k
   ·have j:D=1:=by rcases B1p m with rfl|rfl<;>omega
    obtain⟨a,_⟩:=hr
    have l:mid (4607182418800017408-1)*p10 (-c).toNat<=2*(D*pP c):=by
     rcases a with a|a|⟨a,_⟩
     ·exact absurd a (by decide)
     ·exact Nat.le_of_lt a
     ·exact Nat.le_of_eq a
    rw[E6w]at l
    have r:D*pP c=p2 1074:=by
     rw[g,j,show c.toNat=0 by omega,show p10 0=1 from rfl,Nat.one_mul]
    rw[r]at l;have e:=A3r 1 (-c).toNat (by omega);have i:p10 1=10:=rfl;rw[i]at e;have o:=Nat.mul_le_mul_left (mid 4607182418800017407) e;exact absurd G2s (Nat.not_lt.2 (Nat.le_trans o l))
   ·refine k.none (by omega) (1*p10 (-1-c).toNat) ?_
    have:=F3g.same (B1q.shift 1 (-1-c).toNat 0);rwa[show(0:Int)-((-1-c).toNat:Int)=c+1 by omega]at this
  ·exact d
 obtain rfl:c=0:=by omega
 refine⟨?_,rfl⟩;obtain⟨_,b⟩:=hr;rw[g,show(0:Int).toNat=0 from rfl,show p10 0=1 from rfl,Nat.mul_one,show(-(0:Int)).toNat=0 from rfl,show p10 0=1 from rfl,Nat.mul_one]at b;have:=F5v;rcases Nat.lt_or_ge D 2 with d|d
 ·omega
 ·exfalso
  have n:2*p2 1074<=D*p2 1074:=Nat.mul_le_mul_right _ d;omega
theorem D0p {P:Program} {f:FuncId} {args:Array Value} {w:World} {b:Value} {R:Value->World->Prop} {S:World->Prop} (c:P.inits.idxOf? f=none) (h:Calls P f args w λe w'=>∃a,e=.returned a/\R a w') (i:Calls P f args w λe w'=>e=.returned b/\S w'):∃w',R b w':=by
 obtain⟨q,x,s,⟨a,rfl,j⟩,⟨u,d⟩,m,k⟩:=h [];obtain⟨r,y,t,⟨rfl,_⟩,⟨v,g⟩,n,l⟩:=i [];have o:=step_leave_done k (by rw[m];exact c);have p:=step_leave_done l (by rw[n];exact c);have:=B5g d o g p;injection this with this
 subst this;exact⟨_,j⟩
theorem D3h (w:World):A9p 4607182418800017408=[49]:=by
 have a:Calls Tryz.prog 23 #[.int .u64 ((4607182418800017408:Nat):Int)] w λe w'=>e=.returned (.tuple #[.string (ofL [49]),.int .i64 0])/\Fr (λ_=>False) w w':=by
  refine(A9x 4607182418800017408 4607182418800017408 w (A2j 4607182418800017408 (by omega)) (by omega) (by omega)).mono ?_;rintro e w' ⟨D,f,d,_,_,_,b,c⟩;obtain⟨rfl,rfl⟩:=D9t d;have a:dgs 1=[49]:=by rw[A6a (by omega)];rfl
  rw[a]at b;exact⟨b,c⟩
 have:=C0n (by kernel_rfl) a (C6p 4607182418800017408 w (by omega) (by omega));simp at this;exact(C6n this).symm
theorem F8u (l:LU8) (b:Int) (h:0<l.length):B3b l b≠[]:=by
 have a:l≠[]:=by rintro rfl;simp at h
 unfold B3b;split
 ·unfold D6z
  simp[a]
 ·split
  ·simp
  ·split
   ·simp[a]
   ·simp
theorem E6x (w:World) (b:Nat) (d:b<18446744073709551616) (c:b % 9223372036854775808<9218868437227405312):A9p b≠[]:=by
 have j:Calls Tryz.prog 23 #[.int .u64 (b:Int)] w λe w'=>∃a,e=.returned a/\∃t,a=.tuple #[.string (ofL t),.int .i64 0]/\t≠[]:=by
  by_cases g:b % 9223372036854775808=0
  ·refine(B5y b _ w (A2j b d) g).mono ?_
   rintro e w' ⟨rfl,k⟩;refine⟨_,rfl,_,rfl,?_⟩;intro h;unfold D4e at h;split at h<;>cases h
  ·refine(A9x b _ w (A2j b d) g c).mono ?_
   rintro e w' ⟨D,m,l,_,_,_,rfl,k⟩;refine⟨_,rfl,_,rfl,?_⟩;unfold D4e;split
   ·simp
   ·exact F8u _ _ (B9f D)
 obtain⟨_,t,i,f⟩:=D0p (by kernel_rfl) j (C6p b w d c);simp at i;rw[C6n i];exact f
theorem F3h (w:World) (x:Im) (c:A0z x=true) (a:x.b<18446744073709551616):B3v x≠[]:=by
 unfold B3v;split
 ·simp
 ·split
  ·simp
  ·split
   ·simp
   ·split
    ·rename_i h;exact E6x w x.b a (B5h c h)
    ·unfold A3g;simp
theorem G2t (w:World) (indent:Int) (so:Bool) (d:Nat) (l:List Im) (f:Bok l) (c:A0i d l≠0):wrD indent so d l≠[]:=by
 cases l with
 |nil=>exact absurd (by cases d<;>rfl) c
 |cons x r=>
  have a:A0z x=true:=by
   by_cases a:A0z x=true
   ·exact a
   ·exfalso
    apply c;cases d with
    |zero=>rw[A0i,if_neg (λh=>a h.1)]
    |succ e=>rw[A0i,if_neg a]
  have b:=F3h w x a (f x (by simp));cases d with
  |zero=>exact b
  |succ d=>
   simp only[wrD];split
   ·exact b
   ·unfold A7w
    split<;>simp
theorem D9u (w:World) (a cap:Nat) (its:List Im) (indent:Int) (so:Bool) (g:B9r w (.slice (some ⟨a,0,none⟩) its.length cap) its) (o:C0f w) (i:its.length<=10000000) (j:∀x,x∈its->x.s.length<=100000000) (b:Bok its) (r:wgt its<=90000000000):
 Calls Tryz.prog 8 #[.slice (some ⟨a,0,none⟩) its.length cap,.int .i64 indent,.bool so] w λe w'=>e=.returned (.tuple #[.string (ofL (F5t its indent so).1),.int .i64 (F5t its indent so).2])/\Fr (λ_=>False) w w':=by
 unfold F5t;by_cases l:indent< -1\/16<indent
 ·rw[if_pos l]
  exact D9r w _ indent so l
 ·rw[if_neg l]
  by_cases f:A0i 1000 its=0\/A0i 1000 its≠its.length
  ·rw[if_pos f]
   refine D9s w a cap its.length indent so (by omega) (by omega) ?_;by_cases c:A0i 1000 its=0
   ·exact D9g w a cap its g o i j b c
   ·refine(B7h w a cap its g o i j b c).mono ?_
    rintro e w' ⟨n,v,rfl,⟨k,m,rfl⟩,_⟩;have:((A0i 1000 its:Int)==(its.length:Int))=false:=bqF (by omega);exact⟨n,k,m,by rw[this]⟩
  ·rw[if_neg f]
   have c:A0i 1000 its≠0:=λh=>f (.inl h)
   have d:A0i 1000 its=its.length:=Classical.byContradiction (λh=>f (.inr h));have p:=E6b w indent so (by omega) 1000 its b c;have t:=C0s its (A0i 1000 its);refine E6v w a cap its indent so g (by omega) (by omega) i j b (by omega) (G2t w indent so 1000 its b c) d (by omega) ?_;refine(B7h w a cap its g o i j b c).mono ?_;rintro e w' ⟨n,v,rfl,_,q⟩;have:((A0i 1000 its:Int)==(its.length:Int))=true:=beq_iff_eq.2 (by omega);exact⟨n,v,by rw[this],q d⟩
theorem D9v (B c n:Nat) (S:Nat->Prop) (l:LU8) (w0 w:World) (h:F0w B c n S w0 w) (m:n≠0):
 Calls Tryz.prog 31 #[.pointer (some ⟨B,0,none⟩),.string (ofL l)] w λe w'=>e=.returned (.int .i64 (n:Int))/\F0w B c n S w0 w':=by
 have k:∀(fn:Fn) (first cap:Array Value) (w:World),(Instr.makeFunc fn first cap).run Tryz.prog w=.ok (.func fn first cap) w:=λ_ _ _ _=>rfl
 obtain⟨g,i⟩:=h;have f:=lt_of_block g;have d:∀a b,((w.alloc a).alloc b).heap[B]? =some (.cells (A3k c n) 113 (0,0)):=λa b=>((Below.heap_alloc (w.alloc a) b B (by simp;omega)).trans (Below.heap_alloc w a B f)).trans g
 have q:∀a b,((w.alloc a).alloc b).cell? ⟨B,3,none⟩=some (.bool false):=λa b=>A0a (d a b) rfl
 have p:∀a b,((w.alloc a).alloc b).cell? ⟨B,2,none⟩=some (.int .i64 (n:Int)):=λa b=>A0a (d a b) rfl
 have o:((n:Int)!=0)=true:=bne_iff_ne.2 (by omega);have j:=hid (show∀a b,F0w B c n S w0 ((w.alloc a).alloc b)fromλa b=>⟨d a b,(i.alloc a).alloc b⟩);clear g i d m
 go_enter_defers Tryz.func31,Tryz.ntmps31
 go_wp2;simp[bodyPostD,Leaves,results,Tryz.results31,go_sem];exact j.out _ _
theorem F3i (B d:Nat) (S:Nat->Prop) (w0 w:World) (l a:LU8) (k:1<=d) (m:d<=1000) (y:l.length+a.length<=1500000) (h:Rd B S w0 w (A0p (ps0 d) l)):
 Calls Tryz.prog 31 #[.pointer (some ⟨B,0,none⟩),.string (ofL a)] w λe w'=>e=.returned (.int .i64 ((D2d (A0p (ps0 d) (l++a)):Nat):Int))/\Rd B S w0 w' (A0p (ps0 d) (l++a)):=by
 rw[C8d];cases f:A0p (ps0 d) l with
 |error x=>
  obtain⟨n,c⟩:=x;rw[f]at h;exact D9v B c n S a w0 w h (A9z f).1
 |ok s=>
  rw[f]at h;obtain⟨r,u,v,t,g,o⟩:=h;have i:=D4s (F5b d k m) f;have q:=C3c f;have p:(ps0 d).came=0:=rfl;refine(F0x B r u v t s _ _ a (A0p s a) w g.pr o i (by omega) (by omega) (by omega) rfl).mono ?_;rintro e w' ⟨rfl,b⟩;refine⟨rfl,?_⟩
  show Rd B S w0 w' (A0p s a)
  cases j:A0p s a with
  |ok s'=>
   rw[j]at b;exact g.trans b
  |error x=>
   obtain⟨n,c⟩:=x;rw[j]at b;exact⟨b.1,g.fr.trans' b.2 g.ow⟩
theorem G2u (d:Nat) (w:World):Rd w.heap.size (λ_=>False) w (w.alloc (.cells (A0f (ps0 d) C3g C3g C3g C3g) 113)) (A0p (ps0 d) []):=by
 refine⟨C3g,C3g,C3g,C3g,⟨C8u d w,(Fr.refl _ _).alloc _,?_⟩,λ_=>rfl,λ_ _=>rfl⟩;intro i a;rcases a with rfl|a|a|a|a
 ·exact .inr (Nat.le_refl _)
 all_goals cases a
theorem G2v (l:List It):F7g (ims l)=B3e l:=by
 induction l with
 |nil=>rfl
 |cons x l ih=>
  show imC (B7f x)++F7g (ims l)=_
  rw[ih];rfl
def TR (w:World) (pa:Option Addr) (cs:List (LU8)):Prop:=cs≠[]->∃ad,pa=some ad/\ad.block<w.heap.size/\∀i s,cs[i]? =some s->w.cell? (ad.add i)=some (.string (ofL s))
theorem TR.fr {w w':World} {e:Option Addr} {b:List (LU8)} (h:TR w e b) (d:Fr (λ_=>False) w w'):TR w' e b:=by
 intro j;obtain⟨a,f,c,g⟩:=h j;exact⟨a,f,Nat.lt_of_lt_of_le c d.size,λi s hs=>by rw[d.cell (p:=a.add i) (by rw[B1y];exact c) id];exact g i s hs⟩
theorem B3z {d:Nat} {l:LU8} (h:(A5m (A0p (ps0 d) l)).2.1=0):(A5m (A0p (ps0 d) l)).1≠[]/\A0i d (ims (A5m (A0p (ps0 d) l)).1)=(A5m (A0p (ps0 d) l)).1.length/\Bok (ims (A5m (A0p (ps0 d) l)).1):=by
 have hr:=B0w d l;cases a:B1g d l with
 |ok n its p=>
  rw[a]at hr;simp only at hr;rw[hr.2];exact D9a a
 |wrong n p=>
  rw[a]at hr;simp only at hr;exfalso;have b:=(A9z hr).1;rw[hr]at h;exact b h
 |ended late=>
  rw[a]at hr;simp only at hr;rw[hr.2]at h;exfalso;cases late<;>cases h
theorem D5z {d:Nat} {l:LU8} (h:(A5m (A0p (ps0 d) l)).2.1=0):wt (A5m (A0p (ps0 d) l)).1<=33024*l.length:=by
 have hr:=B0w d l;cases a:B1g d l with
 |ok n its p=>
  rw[a]at hr;simp only at hr;rw[hr.2];exact F2y a
 |wrong n p=>
  rw[a]at hr;simp only at hr;exfalso;have b:=(A9z hr).1;rw[hr]at h;exact b h
 |ended late=>
  rw[a]at hr;simp only at hr;rw[hr.2]at h;exfalso;cases late<;>cases h
theorem D6a {d:Nat} {l:LU8} (h:(A5m (A0p (ps0 d) l)).2.1=0):ws (A5m (A0p (ps0 d) l)).1<=4*l.length:=by
 have hr:=B0w d l;cases a:B1g d l with
 |ok n its p=>
  rw[a]at hr;simp only at hr;rw[hr.2];exact F3a a
 |wrong n p=>
  rw[a]at hr;simp only at hr;exfalso;have b:=(A9z hr).1;rw[hr]at h;exact b h
 |ended late=>
  rw[a]at hr;simp only at hr;rw[hr.2]at h;exfalso;cases late<;>cases h
noncomputable def B7u (depth indent:Int) (so:Bool) (l:LU8):LU8×Int×Nat:=
 if depth<1\/1000<depth\/indent< -1\/16<indent then([],1,0)
 else if(A5m (A0p (ps0 depth.toNat) l)).2.1≠0 then([],((A5m (A0p (ps0 depth.toNat) l)).2.1:Int),(A5m (A0p (ps0 depth.toNat) l)).2.2)
 else(wrD indent so 1000 (ims (A5m (A0p (ps0 depth.toNat) l)).1),0,(A5m (A0p (ps0 depth.toNat) l)).2.2)
theorem D6b {d:Nat} {l:LU8} {indent:Int} {so:Bool} (c:d<=1000) (g:¬(indent< -1\/16<indent)) (h:(A5m (A0p (ps0 d) l)).2.1=0):F5t (ims (A5m (A0p (ps0 d) l)).1) indent so=(wrD indent so 1000 (ims (A5m (A0p (ps0 d) l)).1),0):=by
 obtain⟨e,b,_⟩:=B3z h;have a:A0i d (ims (A5m (A0p (ps0 d) l)).1)≠0:=by rw[b];simpa using e
 have f:A0i 1000 (ims (A5m (A0p (ps0 d) l)).1)=(ims (A5m (A0p (ps0 d) l)).1).length:=by rw[B2b d 1000 _ a c,b,A2p]
 unfold F5t;rw[if_neg g,if_neg];rintro(h|h)
 ·rw[B2b d 1000 _ a c]at h;exact a h
 ·exact h f
theorem C2e (d:Int) (h:d<1\/1000<d) (w:World):Calls Tryz.prog 30 #[.int .i64 d] w λe w'=>e=.returned (.tuple #[.pointer none,.int .i64 1])/\w'=w:=by
 rcases h with h|h
 ·have a:decide (d<1)=true:=dcT h
  go_enter Tryz.func30,Tryz.ntmps30;go_wp2;go_ret2;exact⟨rfl,rfl⟩
 ·have a:decide (d<1)=false:=dcF (by omega)
  have b:decide ((1000:Int)<d)=true:=dcT h;go_enter Tryz.func30,Tryz.ntmps30;go_wp2;go_ret2;exact⟨rfl,rfl⟩
theorem F8v (w:World) (v:Value) (a indent:Int) (so:Bool) (h:a<1\/1000<a\/indent< -1\/16<indent):
 Calls Tryz.prog 16 #[v,.int .i64 a,.int .i64 indent,.bool so] w λe w'=>e=.returned (.agg #[.string (ofL []),.int .i64 1,.int .i64 0])/\Fr (λ_=>False) w w':=by
 by_cases c:a<1\/1000<a
 ·have b:=hid (λw=>C2e a c w)
  clear h c;go_enter Tryz.func16,Tryz.ntmps16
  go_wp2_with (first|(go_at_call 30;refine Calls.mono (b.out _) ?_;rintro e j ⟨rfl,g⟩;have i:=g.symm;subst i)|fail)
  go_returns
  exact⟨rfl,(Fr.refl _ w).alloc _⟩
 ·have f:1<=a/\a<=1000:=by omega
  obtain⟨d,rfl⟩:∃d:Nat,a=d:=⟨a.toNat,by omega⟩;have b:=hid (λw=>B4w d (by omega) (by omega) w);have k:=hid (λw=>F5u indent w (by omega));clear h c f;go_enter Tryz.func16,Tryz.ntmps16
  go_wp2_with (first|(go_at_call 30;refine Calls.mono (b.out _) ?_;rintro e j ⟨rfl,rfl⟩)|(go_at_call 24;refine Calls.mono (k.out _) ?_;rintro e j ⟨rfl,rfl⟩)|fail)
  go_returns
  exact⟨rfl,((Fr.refl _ w).alloc _).alloc _⟩
def A2v (cs:List (LU8)):LU8:=cs.flatten
theorem D0q {a:List (LU8)} {i:Nat} {s:LU8} (h:a[i]? =some s):A2v (a.take (i+1))=A2v (a.take i)++s:=by
 have c:=(List.getElem?_eq_some_iff.1 h).1;have b:=(List.getElem?_eq_some_iff.1 h).2;unfold A2v;rw[List.take_succ_eq_append_getElem c,b,List.flatten_append];simp
theorem E6y (a:List (LU8)) (i:Nat):(A2v (a.take i)).length<=(A2v a).length:=by
 unfold A2v
 conv=>rhs;rw[<-List.take_append_drop i a,List.flatten_append,List.length_append]
 omega
theorem Rd.frm {B:Nat} {S:Nat->Prop} {w0 w:World} {R:Except (Nat×Nat) Ps} (h:Rd B S w0 w R):Fr S w0 w:=by
 cases R with
 |error x=>obtain⟨n,c⟩:=x;exact h.2
 |ok s=>obtain⟨b,e,f,d,⟨_,a,_⟩,_⟩:=h;exact a
theorem TR.at_ {w:World} {a:Addr} {c:List (LU8)} (h:TR w (some a) c) {i:Nat} {s:LU8} (d:c[i]? =some s):w.cell? (a.add i)=some (.string (ofL s)):=by
 obtain⟨b,e,_,f⟩:=h (by rintro rfl;simp at d);obtain rfl:a=b:=by simpa using e
 exact f i s d
theorem D6c {d:World} {g:Nat} {i j k:Value} (h:d.heap[g]? =some (.cells #[i,j,k] 42 (0,0))) (a b c:Value):(((d.setCell ⟨g,0,none⟩ a).setCell ⟨g,1,none⟩ b).setCell ⟨g,2,none⟩ c).heap[g]? =some (.cells #[a,b,c] 42 (0,0)):=by
 have e:=heap_setCell_same d g 0 _ 42 a h;have f:=heap_setCell_same _ g 1 _ 42 b e;exact heap_setCell_same _ g 2 _ 42 c f
theorem G2w (w:World) (pa:Option Addr) (cap d:Nat) (m:List (LU8)) (indent:Int) (so:Bool) (h:TR w pa m) (hT:C0f w) (M:1<=d) (t:d<=1000) (b4: -1<=indent) (b5:indent<=16) (hl:(A2v m).length<=1400000) (hn:m.length<=10000000):
 Calls Tryz.prog 16 #[.slice pa m.length cap,.int .i64 (d:Int),.int .i64 indent,.bool so] w λe w'=>e=.returned (.agg #[.string (ofL (B7u d indent so (A2v m)).1),.int .i64 (B7u d indent so (A2v m)).2.1,.int .i64 ((B7u d indent so (A2v m)).2.2:Int)])/\Fr (λ_=>False) w w':=by
 obtain⟨AN,I⟩:∃AN,B7u d indent so (A2v m)=AN:=⟨_,rfl⟩;rw[I];have U:=hid I;have HN:=hid (λw=>B4w d M t w);have HM:=hid (λw=>D3g indent w b4 b5);have a3:=hid h;have b2:=hid hT;have X:=hid (λ(B:Nat) (w0 wx:World) (l a:LU8) (hx:l.length+a.length<=1500000) (hr:Rd B (λ_=>False) w0 wx (A0p (ps0 d) l))=>F3i B d (λ_=>False) w0 wx l a M t hx hr);have W:=hid (λ(B:Nat) (w0 wx:World) (hB:w0.heap.size<=B) (hr:Rd B (λ_=>False) w0 wx (A0p (ps0 d) (A2v m)))=>E4d B d (λ_=>False) w0 wx (A2v m) M t (by omega) (.inr hB) hr);have a0:=hid (λw1=>G2u d w1);have Z:=hid hl;clear h hT I hl;obtain⟨n,b7⟩:∃n,m.length=n:=⟨_,rfl⟩;rw[b7]at hn ⊢;go_enter Tryz.func16,Tryz.ntmps16
 go_wp2_with (first|(go_at_call 30;refine Calls.mono (HN.out _) ?_;rintro e w2 ⟨rfl,rfl⟩)|(go_at_call 24;refine Calls.mono (HM.out _) ?_;rintro e w2 ⟨rfl,b9⟩;subst b9)|fail)
 have a2:Hid ((w.alloc (.cells #[.string ⟨#[]⟩,.int .i64 0,.int .i64 0] 42)).heap.size=w.heap.size+1):=hid (by simp);have G:=a0.out (w.alloc (.cells #[.string ⟨#[]⟩,.int .i64 0,.int .i64 0] 42));rw[a2.out]at G;have a1:=hid G;clear G a0
 go_loopw [31] (λiv wr=>∃i:Nat,iv=.int .i64 (i:Int)/\i<=n/\Hid (Rd (w.heap.size+1) (λ_=>False) (w.alloc (.cells #[.string ⟨#[]⟩,.int .i64 0,.int .i64 0] 42)) wr (A0p (ps0 d) (A2v (m.take i))))) (λiv _=>n-(intOf iv).toNat)
 case atStart=>exact⟨0,rfl,Nat.zero_le _,a1⟩
 case round=>
  clear a1 HN HM;obtain⟨i,rfl,c1,hR⟩:=hrel;have b0:=hid (((Fr.refl (λ_=>False) w).alloc (.cells #[.string ⟨#[]⟩,.int .i64 0,.int .i64 0] 42)).trans hR.frm);by_cases hi:i<n
  ·have hz:(i:Int)<(n:Int):=by omega
   obtain⟨s,hs⟩:∃s,m[i]? =some s:=⟨_,List.getElem?_eq_getElem (by omega)⟩;obtain⟨ad,b8,-⟩:=a3.out (by rintro rfl;simp at hs);subst b8;have c0:=(a3.fr b0.out).at_ hs;have O:=D0q hs;have a4:=E6y m (i+1);rw[O,List.length_append]at a4;have R:=hid (X.out _ _ wr (A2v (m.take i)) s (by have:=Z.out;omega) hR.out);rw[<-O]at R;clear hs O a4
   go_wp2_with (first|(go_at_call 31;refine Calls.mono R.out ?_;rintro e w2 ⟨rfl,hr⟩;have b1:=hid hr;clear hr)|fail)
   go_roundw
   case rel=>exact⟨i+1,by simp,by omega,b1⟩
   case measure=>simp only[intOf];omega
  ·obtain rfl:i=n:=by omega
   have hz:¬(i:Int)<(i:Int):=by omega
   have z:m.take i=m:=List.take_of_length_le (by omega);have L:=hR.out;rw[z]at L;have R:=hid (W.out _ _ wr (by rw[a2.out];exact Nat.le_refl _) L);obtain⟨f,r⟩:∃f,A5m (A0p (ps0 d) (A2v m))=f:=⟨_,rfl⟩;have o:=hid r;rw[r]at R;clear r L hR z W X
   go_wp2_with fail
   refine Calls.mono R.out ?_;rintro e T ⟨V,rfl,C,-,J⟩;have D:=hid (((Fr.refl (λ_=>False) w).alloc (.cells #[.string ⟨#[]⟩,.int .i64 0,.int .i64 0] 42)).trans J);have N:=J.heap (heap_alloc_new w (.cells #[.string ⟨#[]⟩,.int .i64 0,.int .i64 0] 42)) id;have r0:T.cell? ⟨w.heap.size,0,none⟩=some (.string ⟨#[]⟩):=A0a N rfl;have r1:T.cell? ⟨w.heap.size,1,none⟩=some (.int .i64 0):=A0a N rfl;have r2:T.cell? ⟨w.heap.size,2,none⟩=some (.int .i64 0):=A0a N rfl;have rf:∀j,T.frozen? ⟨w.heap.size,j,none⟩=false:=λ_=>A0b N
   have u:=hid (λa b c=>D6c N a b c);have Y:=hid N;have k:=hid C;clear C J N R;by_cases S:f.2.1=0
   ·have b3:((f.2.1:Int)!=0)=false:=by simp[S]
    have q:(A5m (A0p (ps0 d) (A2v m))).2.1=0:=by rw[o.out];exact S
    have Q:=D6b (so:=so) t (show¬(indent< -1\/16<indent) by omega) q;have a8:=D5z q;have a7:=D6a q;have a6:=F5s f.1;obtain⟨v1,v2,v3⟩:=B3z q;rw[o.out]at Q a8 a7 v1 v2 v3;obtain⟨p1,p2⟩:=D5s f.1;have b6:=Z.out;obtain⟨va,vn,vc,rfl⟩:=A0h k.out;have P:=A1a k.out;have a5:0<f.1.length:=by cases hq:f.1 with|nil=>exact absurd hq v1|cons _ _=>simp
    obtain⟨g,rfl⟩:=A5s k.out (by omega)
    have y:B9r T (.slice (some ⟨g,0,none⟩) (ims f.1).length vc) (ims f.1):=by
     unfold B9r;rw[G2v,A2p];rw[P]at k;exact k.out
    have F:=hid (D9u T g vc (ims f.1) indent so y (b2.fr D.out id id) (by rw[A2p];omega) (λx hx=>by have:=a6 x hx;omega) v3 (by show wt f.1<=_;omega));rw[Q,A2p,<-P]at F
    have HA:=hid (show AN=(wrD indent so 1000 (ims f.1),0,f.2.2) by
     rw[<-U.out];unfold B7u
     rw[if_neg (by omega),Int.toNat_natCast,o.out,if_neg (by omega)])
    generalize wrD indent so 1000 (ims f.1)=TX at*;generalize f.2.1=E at*;generalize f.2.2=A at*;subst S;clear Q a8 a7 a6 v1 v2 v3 p1 p2 b6 y a5 P k q
    go_wp2_with fail
    refine Calls.mono F.out ?_;rintro e w4 ⟨rfl,K⟩;have p:=K.heap Y.out id;have q0:w4.cell? ⟨w.heap.size,0,none⟩=some (.string ⟨#[]⟩):=A0a p rfl;have q1:w4.cell? ⟨w.heap.size,1,none⟩=some (.int .i64 0):=A0a p rfl;have q2:w4.cell? ⟨w.heap.size,2,none⟩=some (.int .i64 0):=A0a p rfl;have qf:∀j,w4.frozen? ⟨w.heap.size,j,none⟩=false:=λ_=>A0b p
    have H:=hid (λa b c=>D6c p a b c);have a9:=hid (D.trans K);clear p K r0 r1 r2 rf u Y F;go_wp2
    (try simp only[Exit.inBlock,Exit.then])
    refine bodyPost_ret (v:=.agg #[.string (ofL TX),.int .i64 0,.int .i64 (A:Int)]) (results_cell_row rfl _ _ w.heap.size 42 _ (0,0) _ rfl (H.out _ _ _) Tryz.underlying42 rfl (by kernel_rfl)) rfl ?_;rw[HA.out];exact⟨rfl,B0k a9.out _ _ _⟩
   ·have b3:((f.2.1:Int)!=0)=true:=by simp[S]
    have HA:=hid (show AN=([],(f.2.1:Int),f.2.2) by
     rw[<-U.out];unfold B7u
     rw[if_neg (by omega),Int.toNat_natCast,o.out,if_pos S])
    generalize f.2.1=E at*;generalize f.2.2=A at*;clear S;go_wp2
    (try simp only[Exit.inBlock,Exit.then])
    refine bodyPost_ret (v:=.agg #[.string ⟨#[]⟩,.int .i64 (E:Int),.int .i64 (A:Int)]) (results_cell_row rfl _ _ w.heap.size 42 _ (0,0) _ rfl (u.out _ _ _) Tryz.underlying42 rfl (by kernel_rfl)) rfl ?_;rw[HA.out];exact⟨rfl,B0k D.out _ _ _⟩
def D9w {α:Type} (B:Nat) (w0:World) (l:LU8) (inn d:Nat) (vi:Value) (its:List It) (good:α->Value) (bad:Value) (U:RO α) (x:Ending) (w':World):Prop:=
 match U with
 |.ok a q=>x=.returned (good a)/\SC B w0 w' l q inn d vi its 0 false false
 |.wrong n q=>x=.returned bad/\SC B w0 w' l q inn d vi its n false false
 |.ended=>x=.returned bad/\SC B w0 w' l [] inn d vi its 0 true false
def E6z (m:Nat):Value:=.tuple #[.int .i64 (m:Int),.bool true]
def G2x:Value:=.tuple #[.int .i64 0,.bool false]
theorem A7z {a:Bool} {k n h:Nat} {c:UInt8} {r:LU8} (e:B5v c=some h) (b:¬(a=true/\((k=3/\16*n+h≠13)\/(k=2/\16*n+h<220)))) (d:¬(a=false/\k=2/\220<=16*n+h/\16*n+h<224)):A1m a (k+1) n (c::r)=A1m a k (16*n+h) r:=by
 rw[A1m,e];simp only;rw[if_neg b,if_neg d]
theorem C6z {a:Bool} {k n h:Nat} {c:UInt8} {r:LU8} (d:B5v c=some h) (b:(a=true/\((k=3/\16*n+h≠13)\/(k=2/\16*n+h<220)))\/(a=false/\k=2/\220<=16*n+h/\16*n+h<224)):A1m a (k+1) n (c::r)=.wrong 5 (c::r):=by
 rw[A1m,d];simp only;rcases b with b|b
 ·rw[if_pos b]
 ·rw[if_neg (by rintro⟨h,_⟩;rw[b.1]at h;cases h),if_pos b]
theorem E7a {a:Bool} {k n:Nat} {c:UInt8} {r:LU8} (b:B5v c=none):A1m a (k+1) n (c::r)=.wrong 3 (c::r):=by
 rw[A1m,b]
theorem D6d (y:Bool) (B:Nat) (w0 w:World) (l p:LU8) (inn d:Nat) (o:Value) (its:List It) (hl:l.length<=100000000) (h:SC B w0 w l p inn d o its 0 false false):
 Calls Tryz.prog 188 #[.pointer (some ⟨B,0,none⟩),.bool y] w (D9w B w0 l inn d o its E6z G2x (A1m y 4 0 p)):=by
 have H:=hid h;clear h;obtain⟨U,N⟩:∃U,A1m y 4 0 p=U:=⟨_,rfl⟩;rw[N];have R:=hid N;clear N;go_enter Tryz.func188,Tryz.ntmps188;go_wp2
 go_loopw [6,7] (λnn i wr=>∃(k n:Nat) (p':LU8),k<=4/\n<65536/\Hid (n<16^k)/\nn=.int .i64 n/\i=.int .i64 k/\Hid (SC B w0 wr l p' inn d o its 0 false false)/\Hid (A1m y (4-k) n p'=U)) (λ_ i _=>4-(intOf i).toNat)
 case atStart=>exact⟨0,0,p,by omega,by omega,hid (by decide),rfl,rfl,H,R⟩
 case round=>
  obtain⟨k,n,p',P,hn,T,rfl,rfl,G,b⟩:=hrel;by_cases V:k<4
  ·cases p' with
   |nil=>
    rw[show 4-k=(3-k)+1 by omega,A1m]at b;have L:=hid (B0y B w0 wr l inn d o its 0 false false G.out)
    go_wp2_with fail
    refine Calls.mono L.out ?_;rintro x M ⟨rfl,m⟩;have A:=hid m;clear m;go_wp2;go_ret2;rw[<-b.out];exact⟨rfl,A.out⟩
   |cons c q=>
    have J:=A0c l;have L:=hid (A7v B w0 wr l c q inn d o its 0 false false G.out);have F:=hid (λw=>F1b c w);rw[show 4-k=(3-k)+1 by omega]at b;cases E:B5v c with
    |none=>
     rw[E7a E]at b;rw[E]at F
     change Hid (∀w,Calls Tryz.prog 215 #[.int .u8 (c.toNat:Int)] w λx w'=>x=.returned (.int .i64 (-1))/\w'=w)at F
     clear E
     go_wp2_with fail
     refine Calls.mono L.out ?_;rintro x K ⟨rfl,v⟩;have f:SC B w0 K l (c::q) inn d o its 0 false false:=v▸G.drew;clear v;obtain⟨D,I⟩:=A3i f.suf;have X:=A0a f.blk (show(A0e l (l.length-(c::q).length) inn d o 0 false false)[0]? =some (.string (ofL l))from rfl);have Y:=A0a f.blk (show(A0e l (l.length-(c::q).length) inn d o 0 false false)[1]? =some (.int .i64 ((l.length-(c::q).length:Nat):Int))from rfl);have S:=A0b (j:=1) f.blk;have O:(ofL l)[l.length-(c::q).length]'(by rw[J];exact D)=c:=(A1d l _ _).trans I;have g:=hid (λn=>(f.drewN n).step);have s:=hid (λn e=>A2m B w0 (K.drewN n) l (c::q) inn d o its 0 e false false (f.drewN n));generalize l.length-(c::q).length=pos at*;clear I f;go_wp2;go_quiet ((go_at_call 215;exact Calls.quiet_of_same (F.out _)))
     go_wp2_with fail
     refine Calls.mono (s.out _ 3) ?_;rintro x M ⟨rfl,m⟩;have A:=hid m;clear m;go_wp2;go_ret2;rw[<-b.out];exact⟨rfl,A.out⟩
    |some h=>
     have Z:=A6i E;rw[E]at F
     change Hid (∀w,Calls Tryz.prog 215 #[.int .u8 (c.toNat:Int)] w λx w'=>x=.returned (.int .i64 (h:Int))/\w'=w)at F
     have r:=hid E;clear E
     go_wp2_with fail
     refine Calls.mono L.out ?_;rintro x K ⟨rfl,v⟩;have f:SC B w0 K l (c::q) inn d o its 0 false false:=v▸G.drew;clear v;obtain⟨D,I⟩:=A3i f.suf;have X:=A0a f.blk (show(A0e l (l.length-(c::q).length) inn d o 0 false false)[0]? =some (.string (ofL l))from rfl);have Y:=A0a f.blk (show(A0e l (l.length-(c::q).length) inn d o 0 false false)[1]? =some (.int .i64 ((l.length-(c::q).length:Nat):Int))from rfl);have S:=A0b (j:=1) f.blk;have O:(ofL l)[l.length-(c::q).length]'(by rw[J];exact D)=c:=(A1d l _ _).trans I;have g:=hid (λn=>(f.drewN n).step);have s:=hid (λn e=>A2m B w0 (K.drewN n) l (c::q) inn d o its 0 e false false (f.drewN n));generalize l.length-(c::q).length=pos at*;clear I f;go_wp2;go_quiet ((go_at_call 215;exact Calls.quiet_of_same (F.out _)));have z:16*n+h<16^(k+1):=by rw[Nat.pow_succ];have:=T.out;omega
     have t:k=0\/k=1\/k=2\/k=3:=by omega
     have W:16*n+h<65536:=Nat.lt_of_lt_of_le z (by rcases t with rfl|rfl|rfl|rfl<;>decide);clear V P;cases y with
     |true=>
      rcases t with rfl|rfl|rfl|rfl
      ·by_cases C:16*n+h=13
       ·have u:((16*(n:Int)+(h:Int))!=13)=false:=by rw[show(16*(n:Int)+(h:Int))=13 by omega];rfl
        rw[A7z r.out (by rintro⟨_,⟨_,a⟩|⟨a,_⟩⟩;exact a C;omega) (by rintro⟨a,_⟩;cases a)]at b;go_wp2;go_roundw
        case rel=>exact⟨1,16*n+h,q,by omega,by omega,hid z,by go_num,by go_num,hid (g.out _),b⟩
        case measure=>simp[intOf]
       ·have u:((16*(n:Int)+(h:Int))!=13)=true:=bne_iff_ne.2 (by omega)
        rw[C6z r.out (.inl ⟨rfl,.inl ⟨rfl,C⟩⟩)]at b
        go_wp2_with fail
        refine Calls.mono (s.out _ 5) ?_;rintro x M ⟨rfl,m⟩;have A:=hid m;clear m;go_wp2;go_ret2;rw[<-b.out];exact⟨rfl,A.out⟩
      ·by_cases C:16*n+h<220
       ·have u:decide ((16*(n:Int)+(h:Int))<220)=true:=dcT (by omega)
        rw[C6z r.out (.inl ⟨rfl,.inr ⟨rfl,C⟩⟩)]at b
        go_wp2_with fail
        refine Calls.mono (s.out _ 5) ?_;rintro x M ⟨rfl,m⟩;have A:=hid m;clear m;go_wp2;go_ret2;rw[<-b.out];exact⟨rfl,A.out⟩
       ·have u:decide ((16*(n:Int)+(h:Int))<220)=false:=dcF (by omega)
        rw[A7z r.out (by rintro⟨_,⟨a,_⟩|⟨_,a⟩⟩;omega;exact C a) (by rintro⟨a,_⟩;cases a)]at b;go_wp2;go_roundw
        case rel=>exact⟨2,16*n+h,q,by omega,by omega,hid z,by go_num,by go_num,hid (g.out _),b⟩
        case measure=>simp[intOf]
      ·skip
       rw[A7z r.out (by rintro⟨_,⟨a,_⟩|⟨a,_⟩⟩<;>omega) (by rintro⟨a,_⟩;cases a)]at b;go_wp2;go_roundw
       case rel=>exact⟨3,16*n+h,q,by omega,by omega,hid z,by go_num,by go_num,hid (g.out _),b⟩
       case measure=>simp[intOf]
      ·skip
       rw[A7z r.out (by rintro⟨_,⟨a,_⟩|⟨a,_⟩⟩<;>omega) (by rintro⟨a,_⟩;cases a)]at b;go_wp2;go_roundw
       case rel=>exact⟨4,16*n+h,q,by omega,by omega,hid z,by go_num,by go_num,hid (g.out _),b⟩
       case measure=>simp[intOf]
     |false=>
      rcases t with rfl|rfl|rfl|rfl
      ·skip
       rw[A7z r.out (by rintro⟨a,_⟩;cases a) (by rintro⟨_,a,_⟩;omega)]at b;go_wp2;go_roundw
       case rel=>exact⟨1,16*n+h,q,by omega,by omega,hid z,by go_num,by go_num,hid (g.out _),b⟩
       case measure=>simp[intOf]
      ·by_cases C:220<=16*n+h
       ·have u:decide (220<=(16*(n:Int)+(h:Int)))=true:=dcT (by omega)
        by_cases hr:16*n+h<224
        ·have Q:decide ((16*(n:Int)+(h:Int))<224)=true:=dcT (by omega)
         rw[C6z r.out (.inr ⟨rfl,rfl,C,hr⟩)]at b
         go_wp2_with fail
         refine Calls.mono (s.out _ 5) ?_;rintro x M ⟨rfl,m⟩;have A:=hid m;clear m;go_wp2;go_ret2;rw[<-b.out];exact⟨rfl,A.out⟩
        ·have Q:decide ((16*(n:Int)+(h:Int))<224)=false:=dcF (by omega)
         rw[A7z r.out (by rintro⟨a,_⟩;cases a) (by rintro⟨_,_,_,a⟩;exact hr a)]at b;go_wp2;go_roundw
         case rel=>exact⟨2,16*n+h,q,by omega,by omega,hid z,by go_num,by go_num,hid (g.out _),b⟩
         case measure=>simp[intOf]
       ·have u:decide (220<=(16*(n:Int)+(h:Int)))=false:=dcF (by omega)
        rw[A7z r.out (by rintro⟨a,_⟩;cases a) (by rintro⟨_,_,a,_⟩;exact C a)]at b;go_wp2;go_roundw
        case rel=>exact⟨2,16*n+h,q,by omega,by omega,hid z,by go_num,by go_num,hid (g.out _),b⟩
        case measure=>simp[intOf]
      ·skip
       rw[A7z r.out (by rintro⟨a,_⟩;cases a) (by rintro⟨_,a,_⟩;omega)]at b;go_wp2;go_roundw
       case rel=>exact⟨3,16*n+h,q,by omega,by omega,hid z,by go_num,by go_num,hid (g.out _),b⟩
       case measure=>simp[intOf]
      ·skip
       rw[A7z r.out (by rintro⟨a,_⟩;cases a) (by rintro⟨_,a,_⟩;omega)]at b;go_wp2;go_roundw
       case rel=>exact⟨4,16*n+h,q,by omega,by omega,hid z,by go_num,by go_num,hid (g.out _),b⟩
       case measure=>simp[intOf]
  ·obtain rfl:k=4:=by omega
   rw[Nat.sub_self,A1m]at b;go_wp2;go_ret2;rw[<-b.out];exact⟨rfl,G.out⟩
end Go.Proofs.YtmkkibaacclhnaaGreatDoor
