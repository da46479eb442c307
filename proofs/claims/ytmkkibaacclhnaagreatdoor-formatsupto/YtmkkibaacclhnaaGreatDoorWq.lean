/-
  Part Wq.
-/
import Derived.Test.YtmkkibaacclhnaaGreatDoorRc
import Derived.Test.YtmkkibaacclhnaaGreatDoorWw
import Derived.Test.YtmkkibaacclhnaaGreatDoorWt
import Derived.Laws.AppendOwnNone
namespace Go.Proofs.YtmkkibaacclhnaaGreatDoor
open Go.RowKit
set_option maxRecDepth 100000
set_option maxHeartbeats 16000000
theorem C6m {P:Program} {f:FuncId} {args:Array Value} {w:World} {R:Ending->World->Prop} (h:Calls P f args w R):∃e w',R e w':=by
 obtain⟨e,w',_,a,_⟩:=h [];exact⟨e,w',a⟩
theorem E5w {l:LU8} {t:Tk} (w:World) (a:l.length<=1000000000000000) (hr:run t0 l=some t) (b:A8b t.st):∃r,A8v t.D t.at r:=by
 obtain⟨e,w',⟨c,_⟩⟩:=C6m (B4j l w a);obtain⟨r,h,_⟩:=c.1 t hr b;exact⟨r,h⟩
theorem B8i {l:LU8} (h:A9i l=none) {t:Tk} (hr:run t0 l=some t):¬A8b t.st:=λhE=>by
 obtain⟨neg,b,fr,en,ex,a⟩:=G0t hr hE;rw[a.cut]at h;cases h
theorem B5f {l:LU8} {neg:Bool} {a fr:LU8} {en:Bool} {ex:LU8} (w:World) (e:l.length<=1000000000000000) (i:A9i l=some (neg,a,fr,en,ex)):
 ∃t r,run t0 l=some t/\A8b t.st/\t.neg=neg/\A8v t.D t.at r/\A1t (num (dv (a++fr))) (D7j fr en ex) r:=by
 have h:=E2q i;obtain⟨k,c,b⟩:=h.run;obtain⟨r,hr⟩:=E5w w e b c;refine⟨_,r,b,c,rfl,hr,?_⟩
 have g:A8v (A1p ([],(a.length:Int)+D7j [] en ex) (dv a++dv fr)).1 (A1p ([],(a.length:Int)+D7j [] en ex) (dv a++dv fr)).2 r:=by
  have d:=B8y ([],(a.length:Int)) (D7j [] en ex) (dv a++dv fr);simp only at d;rw[d];simp only at hr ⊢;unfold Tk.at at hr;simp only at hr;refine hr.far ?_;unfold D7j;generalize (A1p ([],(a.length:Int)) (dv a++dv fr)).2=P;generalize num (dv ex)=q;cases en
  ·simp only[Bool.false_eq_true,if_false,List.length_nil];omega
  ·simp only[if_true,List.length_nil];omega
 have j:B0m (dv a++dv fr):=by rw[<-A4d];exact(h.w.1.append h.f).digs
 have:=E9z j g;rw[<-A4d,A3e,List.length_append]at this;rw[show(a.length:Int)+D7j [] en ex-((a.length+fr.length:Nat):Int)=D7j fr en ex by unfold D7j;simp only[List.length_nil];omega]at this;exact this
theorem C0j {t:Tk} {r k:Nat} (b:A8b t.st) (a:TkOk t k) (h:A8v t.D t.at r):A3n t=A2z t.neg r:=by
 unfold A3n;rw[if_pos b,D4i a.digs a.head h]
theorem C0k {t:Tk} (a:¬A8b t.st):A3n t=(0,3):=by
 unfold A3n;rw[if_neg a]
theorem C0m {l:LU8} {t:Tk} (h:run t0 l=some t):TkOk t l.length/\B3a t:=by
 have f:∀(l:LU8) (t e:Tk) (k:Nat),TkOk t k->B3a t->run t l=some e->TkOk e (k+l.length)/\B3a e:=by
  intro l
  induction l with
  |nil=>
   intro t e k i j d;simp only[run,Option.some.injEq]at d;subst d;exact⟨i,j⟩
  |cons c l ih=>
   intro t e k i j d;rw[run]at d;cases g:nxt t c with
   |none=>rw[g]at d;cases d
   |some t1=>
    rw[g]at d;obtain⟨a,b⟩:=C7r i j g;have:=ih t1 e (k+1) a b d;rw[List.length_cons,show k+(l.length+1)=k+1+l.length by omega];exact this
 have:=f l t0 t 0 E9g G1f h;rw[Nat.zero_add]at this;exact this
theorem D5j {D:List Nat} {P:Int} {r:Nat} (h:A8v D P r):oor D P=decide (9218868437227405312<=r):=by
 cases a:oor D P with
 |true=>rw[h.1 a];rfl
 |false=>
  have:=(h.2 a).2;rw[dcF (by omega)]
theorem A8f (neg:Bool) (r:Nat):((A2z neg r).2=6↔9218868437227405312<=r)/\((A2z neg r).2=0↔¬9218868437227405312<=r):=by
 unfold A2z;by_cases h:9218868437227405312<=r
 ·rw[if_pos h];simp[h]
 ·rw[if_neg h];simp[h]
theorem D8v {s:LU8} {t:Tk} (h:run t0 s=some t):A8b t.st\/∃t',run t0 (s++[48])=some t'/\A8b t'.st:=by
 have c:=(C0m h).1.st;by_cases a:A8b t.st
 ·exact .inl a
 ·right
  have b:t.st=0\/t.st=1\/t.st=4\/t.st=6\/t.st=7:=by
   unfold A8b at a;omega
  have d:beh t.st 48=2\/beh t.st 48=5\/beh t.st 48=8:=by
   rcases b with h|h|h|h|h<;>rw[h]<;>decide
  refine⟨A4q t 48 (beh t.st 48),?_,?_⟩
  ·rw[B7x 48 h]
   unfold nxt;rw[if_neg (by omega)]
  ·rw[A9e]
   unfold A8b;omega
theorem D8w {s:LU8} (h:run t0 s=none) (b:LU8):run t0 (s++b)=none:=by
 rw[A6g,h];rfl
theorem F8h {l:LU8} (w:World) (c:l.length<=1000000000000000) (h:A9i l≠none):∃t,run t0 l=some t/\A8b t.st:=by
 cases a:A9i l with
 |none=>exact absurd a h
 |some x=>
  obtain⟨neg,e,fr,en,ex⟩:=x;obtain⟨t,r,b,d,_⟩:=B5f w c a;exact⟨t,b,d⟩
noncomputable def A7c (s:LU8):Bool:=match run t0 s with
 |none=>false
 |some t=>decide ((A3n t).2=6)
theorem B6m {s:LU8} {t:Tk} (w:World) (c:s.length<=1000000000000000) (h:run t0 s=some t) (b:A8b t.st):A7c s=oor t.D t.at:=by
 obtain⟨r,hr⟩:=E5w w c h b;have d:=C0j b (C0m h).1 hr;unfold A7c;rw[h,D5j hr];simp only;rw[d];by_cases a:9218868437227405312<=r
 ·rw[dcT a,dcT ((A8f _ _).1.2 a)]
 ·rw[dcF a,dcF (λe=>a ((A8f _ _).1.1 e))]
theorem E5x {s:LU8} (h:∀t,run t0 s=some t->¬A8b t.st):A7c s=false:=by
 unfold A7c;cases hr:run t0 s with
 |none=>rfl
 |some t=>
  simp only;rw[C0k (h t hr)];decide
def B6n:LU8->Bool
 |[]=>false
 |c::r=>if c=101\/c=69 then false else if 49<=c.toNat/\c.toNat<=57 then true else B6n r
theorem G2i {st:Nat} {c:UInt8} (h:6<=st) (a:beh st c≠0):beh st c=7\/beh st c=8:=by
 unfold beh at a ⊢
 repeat' split
 all_goals simp_all
 all_goals omega
theorem E5y (t:Tk) (c:UInt8) (k:Nat) (h:k=7\/k=8):(A4q t c k).D=t.D:=by
 unfold A4q;rcases h with rfl|rfl<;>simp
theorem F8i {s:LU8} {t b:Tk} (h:6<=t.st) (hr:run t s=some b):b.D=t.D:=by
 induction s generalizing t with
 |nil=>
  simp only[run,Option.some.injEq]at hr;rw[hr]
 |cons c s ih=>
  rw[run]at hr;unfold nxt at hr;by_cases a:beh t.st c=0
  ·rw[if_pos a]at hr
   cases hr
  ·rw[if_neg a]at hr
   have d:=G2i h a;rw[ih (by rw[A9e];omega) hr,E5y _ _ _ d]
theorem G2j {s:LU8} {t q:Tk} (g:t.D=[]) (v:t.st<=5) (hr:run t s=some q) (b:q.D≠[]):B6n s=true:=by
 induction s generalizing t with
 |nil=>
  simp only[run,Option.some.injEq]at hr;rw[<-hr]at b;exact absurd g b
 |cons c s ih=>
  rw[run]at hr;unfold nxt at hr;by_cases i:beh t.st c=0
  ·rw[if_pos i]at hr
   cases hr
  rw[if_neg i]at hr;rw[B6n];by_cases f:c=101\/c=69
  ·exfalso
   have o:beh t.st c=6:=by
    unfold beh at i ⊢;rcases f with rfl|rfl
    ·repeat' split
     all_goals simp_all[isD]
    ·repeat' split
     all_goals simp_all[isD]
   have l:=F8i (by rw[A9e];omega) hr;rw[o]at l;apply b;rw[l];unfold A4q;simp[g]
  rw[if_neg f];by_cases j:49<=c.toNat/\c.toNat<=57
  ·rw[if_pos j]
  rw[if_neg j]
  have d:beh t.st c<=5:=by
   unfold beh;have u:¬(c=101\/c=69):=f
   repeat' split
   all_goals first
    |omega
    |(exfalso;rename_i h;exact u h.2)
    |(exfalso;omega)
  refine ih ?_ (by rw[A9e];exact d) hr
  have n:∀P:Int,(beh t.st c=2\/beh t.st c=3\/beh t.st c=5)->(A5p ([],P) (c.toNat-48)).1=[]:=by
   intro P o;have e:=B8x (s:=t.st) (c:=c) (by omega);have:=(A6h c).1 e;have r:c.toNat-48=0:=by omega
   rw[r];simp[A5p]
  generalize w:beh t.st c=k at*;unfold A4q;rw[g];by_cases m:k=1
  ·rw[if_pos m]
  rw[if_neg m];by_cases a:k=2\/k=3
  ·rw[if_pos a]
   exact n _ (by omega)
  rw[if_neg a];by_cases p:k=5
  ·rw[if_pos p]
   exact n _ (by omega)
  rw[if_neg p,if_neg (by omega),if_neg (by omega)]
theorem B5g {P:Program} {m i h:Machine} {e a:Nat} {b c:Outcome} {g f:World} (j:runN P e m=.next i) (n:step P i=.ended b g) (q:runN P a m=.next h) (k:step P h=.ended c f):b=c:=by
 have o:runN P (e+1) m=.ended b g:=by rw[runN_add,j];simp[runN,n]
 have p:runN P (a+1) m=.ended c f:=by rw[runN_add,q];simp[runN,k]
 have d:runN P (e+1+(a+1)) m=.ended b g:=by rw[runN_add,o]
 have l:runN P (a+1+(e+1)) m=.ended c f:=by rw[runN_add,p]
 rw[Nat.add_comm,l]at d;injection d with d _
 exact d.symm
theorem C0n {P:Program} {f:FuncId} {args:Array Value} {w:World} {a b:Value} {R S:World->Prop} (c:P.inits.idxOf? f=none) (o:Calls P f args w λe w'=>e=.returned a/\R w') (k:Calls P f args w λe w'=>e=.returned b/\S w'):a=b:=by
 obtain⟨r,t,q,⟨rfl,_⟩,⟨x,l⟩,g,j⟩:=o [];obtain⟨p,v,s,⟨rfl,_⟩,⟨u,h⟩,m,i⟩:=k [];have n:=step_leave_done j (by rw[g];exact c);have d:=step_leave_done i (by rw[m];exact c);have:=B5g l n h d;injection this
theorem C6n {a b:LU8} (h:ofL a=ofL b):a=b:=by rw[<-A0y a,<-A0y b,h]
def PrT (bits:Nat) (t:LU8):Prop:=∀w,Calls Tryz.prog 77 #[.int .u64 (bits:Int)] w λe w'=>e=.returned (.tuple #[.string (ofL t),.int .i64 0])/\Fr (λ_=>False) w w'
theorem PrT.one {a:Nat} {t u:LU8} (w:World) (b:PrT a t) (c:PrT a u):t=u:=by
 have:=C0n (by kernel_rfl) (b w) (c w);simp at this;exact C6n this
theorem B6p (a:Nat) (w:World) (u:a<18446744073709551616) (b:a % 9223372036854775808<9218868437227405312):
 Calls Tryz.prog 23 #[.int .u64 (a:Int)] w λe w'=>∃t,e=.returned (.tuple #[.string (ofL t),.int .i64 0])/\PrT a t/\t.length<=101/\Fr (λ_=>False) w w':=by
 obtain⟨m,r⟩:∃m,a % 9223372036854775808=m:=⟨_,rfl⟩;have k:=A2j a u;rw[r]at k;rw[r]at b;by_cases q:a<9223372036854775808
 ·obtain rfl:a=m:=by omega
  have n:decide ((9223372036854775808:Int)<=(a:Int))=false:=dcF (by omega);by_cases d:a<9218868437227405312
  ·have i:decide ((9218868437227405312:Int)<=(a:Int))=false:=dcF (by omega)
   by_cases g:a=0
   ·subst g
    refine(B5y 0 0 w k rfl).mono ?_;rintro e w' ⟨rfl,j⟩;exact⟨[48],rfl,λw=>(C9s w).mono λe w' ⟨c,h⟩=>⟨c,by rw[h];exact Fr.refl _ _⟩,by simp,j⟩
   ·refine(A9x a a w k g d).mono ?_
    rintro e w' ⟨D,f,p,s,c,h,rfl,j⟩;refine⟨B3b (dgs D) f,by rw[bne_self_eq_false];rfl,λw=>?_,by have:=C5a (dgs D) f (A2b D (by omega)) c h;(try simp only[List.length_append,List.length_singleton]);omega,j⟩;exact F2g a (dgs D) f w n i (bqF (by omega)) (B9f D) (A2b D (by omega)) c h (λw=>C3s a D f w p g d c (F5p a g) (F5q a d))
  ·exact absurd b d
 ·have n:decide ((9223372036854775808:Int)<=(a:Int))=true:=dcT (by omega)
  have l:IntKind.u64.wrap ((a:Int)-9223372036854775808)=(m:Int):=by
   rw[show(a:Int)-9223372036854775808=(m:Int) by omega];exact IntWalk.u64_in _ ⟨by omega,by clear k;omega⟩
  have o:(a !=m)=true:=bne_iff_ne.2 (by omega);by_cases d:m<9218868437227405312
  ·have i:decide ((9218868437227405312:Int)<=(m:Int))=false:=dcF (by omega)
   by_cases g:m=0
   ·subst g
    obtain rfl:a=9223372036854775808:=by omega
    refine(B5y 9223372036854775808 0 w k rfl).mono ?_;rintro e w' ⟨rfl,j⟩;exact⟨[45,48],rfl,λw=>(C9t w).mono λe w' ⟨c,h⟩=>⟨c,by rw[h];exact Fr.refl _ _⟩,by simp,j⟩
   ·refine(A9x a m w k g d).mono ?_
    rintro e w' ⟨D,f,p,s,c,h,rfl,j⟩;refine⟨[45]++B3b (dgs D) f,by rw[o];rfl,λw=>?_,by have:=C5a (dgs D) f (A2b D (by omega)) c h;(try simp only[List.length_append,List.length_singleton]);omega,j⟩;exact F2h a m (dgs D) f w n l i (bqF (by omega)) (B9f D) (A2b D (by omega)) c h (λw=>C3s m D f w p g d c (F5p m g) (F5q m d))
  ·exact absurd b d
theorem G2k (a:Nat) (w:World) (c:a<18446744073709551616) (b:a % 9223372036854775808<9218868437227405312):∃t,PrT a t:=by
 obtain⟨e,w',t,_,h,_⟩:=C6m (B6p a w c b);exact⟨t,h⟩
theorem F8j (a:Nat) (w:World) (c:a<18446744073709551616) (b:a % 9223372036854775808<9218868437227405312):∃t,PrT a t/\t.length<=101:=by
 obtain⟨e,w',t,_,h,d,_⟩:=C6m (B6p a w c b);exact⟨t,h,d⟩
open Classical in
noncomputable def A9p (bits:Nat):LU8:=if h:∃t,PrT bits t then Classical.choose h else[]
theorem C0p {a:Nat} {t:LU8} (w:World) (h:PrT a t):A9p a=t:=by
 unfold A9p;rw[dif_pos ⟨t,h⟩];exact PrT.one w (Classical.choose_spec (⟨t,h⟩:∃t,PrT a t)) h
theorem C3t (w:World) (a:Nat) (c:a<18446744073709551616) (b:a % 9223372036854775808<9218868437227405312):(A9p a).length<=101:=by
 obtain⟨t,h,d⟩:=F8j a w c b;rw[C0p w h];exact d
theorem F2n (a:Nat) (w:World) (c:a<18446744073709551616) (b:a % 9223372036854775808<9218868437227405312):
 Calls Tryz.prog 77 #[.int .u64 (a:Int)] w λe w'=>e=.returned (.tuple #[.string (ofL (A9p a)),.int .i64 0])/\Fr (λ_=>False) w w':=by
 obtain⟨t,h⟩:=G2k a w c b;rw[C0p w h];exact h w
theorem C6p (a:Nat) (w:World) (d:a<18446744073709551616) (b:a % 9223372036854775808<9218868437227405312):
 Calls Tryz.prog 23 #[.int .u64 (a:Int)] w λe w'=>e=.returned (.tuple #[.string (ofL (A9p a)),.int .i64 0])/\Fr (λ_=>False) w w':=by
 refine(B6p a w d b).mono ?_;rintro e w' ⟨t,f,h,_,c⟩;rw[C0p w h];exact⟨f,c⟩
def B5q (l:List (LU8)):List Value:=l.map λs=>.string (ofL s)
theorem Tryz.info9S:(Tryz.prog.info? 9).map (λi=>(i.zero,i.size,i.bytes))=some (some (.string ⟨#[]⟩),1,16):=by kernel_rfl
theorem C0q:∃i,Tryz.prog.info? 9=some i/\i.zero=some (.string ⟨#[]⟩)/\i.size=1/\i.bytes=16:=by
 have h:=Tryz.info9S;cases a:Tryz.prog.info? 9 with
 |none=>rw[a]at h;cases h
 |some i=>rw[a]at h;simp at h;exact⟨i,rfl,h.1,h.2.1,h.2.2⟩
theorem Tryz.under44S:Tryz.prog.underlying 44=some (.slice 9):=by kernel_rfl
def SR (w:World) (V:Value) (l:List (LU8)):Prop:=w.ownsRow 0 9 1 V l.length (B5q l)
theorem SR.nil (w:World):SR w (.slice none 0 0) []:=⟨rfl,.inl ⟨rfl,rfl⟩⟩
theorem C6q (l:List (LU8)):∀u,u∈B5q l->u.oneCell'=true:=by
 intro u a;obtain⟨s,_,rfl⟩:=List.mem_map.1 a;rfl
theorem D2x (w:World) (a:Value) (e:Nat):∀j u,[a][j]? =some u->(w.alloc (.cells #[a] e)).cell? ((⟨w.heap.size,0,none⟩:Addr).add j)=some u:=by
 intro j u b;have c:=heap_alloc_new w (.cells #[a] e)
 match j,b with
 |0,b=>simp at b;subst b;exact A0a c rfl
theorem B2a {w:World} {e size g n cap:Nat} {xs:List Value} (h:w.ownsRow 0 e size (.slice (some ⟨g,0,none⟩) n cap) n xs):g<w.heap.size:=by
 rcases h.2 with⟨f,_⟩|⟨j,a,d,b,k,c,i⟩
 ·cases f
 ·simp at b
  obtain⟨rfl,rfl⟩:=b;exact lt_of_block c
theorem F8k (s:LU8) (w:World):
 Calls Tryz.prog 79 #[.slice none 0 0,.int .i64 0,.string (ofL s)] w λe w'=>∃a n c,e=.returned (.slice a n c)/\SR w' (.slice a n c) [s]/\Fr (λ_=>False) w w'/\∀i,(Value.slice a n c).ownBlock=some i->w.heap.size<=i:=by
 obtain⟨p,g,m,q,j⟩:=C0q;have A:=hid (λo=>(Fr.refl (λ_=>False) w).alloc o);go_enter Tryz.func79,Tryz.ntmps79
 go_wp2_with (first
  |(at_builtin;refine wpList_append_own_none rfl _ _ 44 rfl 0 9 p 1 Tryz.under44S g _ 0 [] rfl (World.ownsRow_nil _ 0 9 1) rfl ?_)
  |(at_builtin;refine wpList_append_own_none rfl _ _ 44 rfl 0 9 p 1 Tryz.under44S g _ 1 [.string (ofL s)] rfl t.out rfl ?_)
  |(at_builtin;refine A0g _ rfl _ _ 44 rfl 9 p (.string ⟨#[]⟩) 1 16 Tryz.under44S g m q j rfl (by decide) _ 0 [] rfl (World.ownsRow_nil _ 0 9 1) ⟨w.heap.size,0,none⟩ 1 1 [.string (ofL s)] rfl rfl (D2x _ _ _) (by intro u r;simp at r;subst r;rfl) (by unfold maxLen;omega) (by omega) ?_;intro C v b d f;obtain⟨z,B,y,rfl⟩:=A0h b;obtain rfl:=A1a b;have t:=hid (show v.ownsRow 0 9 1 (.slice z 1 y) 1 [.string (ofL s)]from b);have l:=hid ((A.out _).grown d (λk hk=>by cases hk));have x:=hid f;clear b d f)
  |fail)
 go_ret;refine⟨_,_,_,rfl,t.out,l.out,λi g=>?_⟩;rcases x.out i g with h|h
 ·cases h
 ·simp at h;omega
theorem D5k {w:World} {V:Value} {k:Nat} {xs:List Value} (h:w.ownsRow 0 9 1 V (0+k) ([]++xs)):w.ownsRow 0 9 1 V k xs:=by
 rw[Nat.zero_add]at h;exact h
theorem C9w {w:World} {g n cap:Nat} {l:List (LU8)} (h:w.ownsRow 0 9 1 (.slice (some ⟨g,0,none⟩) n cap) n (B5q l)) (o:Nat) (b:List (LU8)) (e:∀j x,b[j]? =some x->l[o+j]? =some x):∀j u,(B5q b)[j]? =some u->w.cell? ((⟨g,o,none⟩:Addr).add j)=some u:=by
 intro j u a;unfold B5q at a;rw[List.getElem?_map]at a;cases c:b[j]? with
 |none=>rw[c]at a;cases a
 |some x=>
  rw[c]at a;have d:=A2c h (o+j) u (by unfold B5q;rw[List.getElem?_map,e j x c];exact a);cases j with
  |zero=>simpa[Addr.add]using d
  |succ j=>simpa[Addr.add]using d
theorem F2p {w:World} {V:Value} {k:Nat} {s:LU8} {l:List (LU8)} (h:(l.take k).length=k/\(l.drop k).length=k-k) (hr:w.ownsRow 0 9 1 V (k+1+0) (B5q (l.take k++[s])++[])):SR w V (l.take k++[s]++l.drop k):=by
 have a:l.drop k=[]:=List.eq_nil_of_length_eq_zero (by omega);unfold SR;rw[a,List.append_nil,show(l.take k++[s]).length=k+1 by simp only[List.length_append,List.length_singleton];omega];rw[List.append_nil]at hr;exact hr
theorem F2q (s:LU8) (w:World) (g n cap k:Nat) (l:List (LU8)) (h:SR w (.slice (some ⟨g,0,none⟩) n cap) l) (U:k<=n) (b0:0<n) (a8:n<=cap) (hn:n<=10000000):
 Calls Tryz.prog 79 #[.slice (some ⟨g,0,none⟩) n cap,.int .i64 (k:Int),.string (ofL s)] w λe w'=>∃a n' c,e=.returned (.slice a n' c)/\SR w' (.slice a n' c) (l.take k++[s]++l.drop k)/\Fr (λ_=>False) w w'/\∀i,(Value.slice a n' c).ownBlock=some i->w.heap.size<=i:=by
 obtain⟨J,m,r,t,p⟩:=C0q;have G:l.length=n:=(A1a h).symm;have o:w.ownsRow 0 9 1 (.slice (some ⟨g,0,none⟩) n cap) n (B5q l):=by have:=h;unfold SR at this;rw[G]at this;exact this
 have a4:=hid o;have HF:=hid (Fr.refl (λ_=>False) w);have a7:=B2a o;have Q:=hid (show(l.take k).length=k/\(l.drop k).length=n-k from⟨by simp;omega,by simp;omega⟩)
 have L:=hid (C9w o 0 (l.take k) (λj x hx=>by
  rw[List.getElem?_take]at hx;split at hx
  ·simpa using hx
  ·cases hx))
 have X:=hid (λ(wx:World) (hf:Fr (λ_=>False) w wx)=>C9w (A7e o hf (λi m=>id)) k (l.drop k) (λj x hx=>by rw[List.getElem?_drop]at hx;exact hx));have a5:(k:Int)<=(n:Int):=by omega
 have a6:(k:Int)<=(cap:Int):=by omega
 have a9:(n:Int)<=(cap:Int):=by omega
 have HL:=hid G;clear h o G;by_cases V:k<cap
 ·go_enter Tryz.func79,Tryz.ntmps79
  go_wp2_with (first
   |(at_builtin;refine A0g _ rfl _ _ 44 rfl 9 J (.string ⟨#[]⟩) 1 16 Tryz.under44S m r t p rfl (by decide) _ 0 [] rfl (World.ownsRow_nil _ 0 9 1) ⟨g,0,none⟩ k cap (B5q (l.take k)) rfl (by have:=Q.1;unfold B5q;rw[List.length_map];omega) L.out (C6q _) (by unfold maxLen;omega) (by omega) ?_;intro v1 P b d f;obtain⟨S,W,R,rfl⟩:=A0h b;have E:k=W:=((A1a b).trans (Nat.zero_add k)).symm;subst E;have v:=hid (show P.ownsRow 0 9 1 (.slice S k R) k (B5q (l.take k))from D5k b);have A:=hid (HF.grown d (λk U=>by cases U));have y:=hid (show∀i,(Value.slice S k R).ownBlock=some i->w.heap.size<=i fromλi m=>(f i m).elim (λh=>by cases h) id);clear b d f)
   |(at_builtin;refine A0g _ rfl _ _ 44 rfl 9 J (.string ⟨#[]⟩) 1 16 Tryz.under44S m r t p rfl (by decide) _ k (B5q (l.take k)) rfl (v.alloc _) ⟨P.heap.size,0,none⟩ 1 1 [.string (ofL s)] rfl rfl (D2x _ _ _) (by intro u I;simp at I;subst I;rfl) (by unfold maxLen;omega) (by omega) ?_;intro v2 w2 b d f;obtain⟨N,n2,K,rfl⟩:=A0h b;have B:k+1=n2:=(A1a b).symm;subst B;have H:=hid (show w2.ownsRow 0 9 1 (.slice N (k+1) K) (k+1) (B5q (l.take k++[s]))from by unfold B5q;rw[List.map_append];exact b);have q:=hid ((A.alloc _).grown d (λi m=>.inr (y.out i m)));have z:=hid (show∀i,(Value.slice N (k+1) K).ownBlock=some i->w.heap.size<=i fromλi m=>(f i m).elim (λh=>y.out i h) (λh=>by have:=A.size;simp at h;omega));clear b d f v)
   |(at_builtin;refine A0g _ rfl _ _ 44 rfl 9 J (.string ⟨#[]⟩) 1 16 Tryz.under44S m r t p rfl (by decide) _ (k+1) (B5q (l.take k++[s])) rfl H.out ⟨g,k,none⟩ (n-k) (cap-k) (B5q (l.drop k)) rfl (by have:=Q.2;unfold B5q;rw[List.length_map];omega) (X.out _ q.out) (C6q _) (by unfold maxLen;omega) (by omega) ?_;intro v3 Y b d f;obtain⟨M,T,O,rfl⟩:=A0h b;have C:=hid (show SR Y (.slice M T O) (l.take k++[s]++l.drop k)from by(unfold SR;have h1:=Q.out;rw[show(l.take k++[s]++l.drop k).length=k+1+(n-k) by simp only[List.length_append,List.length_singleton];omega];have h2:=b;unfold B5q at h2 ⊢;rw[List.map_append];exact h2));have D:=hid (q.grown d (λi m=>.inr (z.out i m)));have F:=hid (show∀i,(Value.slice M T O).ownBlock=some i->w.heap.size<=i fromλi m=>(f i m).elim (λh=>z.out i h) (λh=>by have:=q.size;omega));clear b d f)
   |fail)
  go_ret;exact⟨_,_,_,rfl,C.out,D.out,F.out⟩
 ·have Z:k=cap:=by omega
  subst Z;have a0:k=n:=by omega
  subst a0;go_enter Tryz.func79,Tryz.ntmps79
  go_wp2_with (first
   |(at_builtin;refine A0g _ rfl _ _ 44 rfl 9 J (.string ⟨#[]⟩) 1 16 Tryz.under44S m r t p rfl (by decide) _ 0 [] rfl (World.ownsRow_nil _ 0 9 1) ⟨g,0,none⟩ k k (B5q (l.take k)) rfl (by have:=Q.1;unfold B5q;rw[List.length_map];omega) L.out (C6q _) (by unfold maxLen;omega) (by omega) ?_;intro v1 P b d f;obtain⟨S,W,R,rfl⟩:=A0h b;have E:k=W:=((A1a b).trans (Nat.zero_add k)).symm;subst E;have v:=hid (show P.ownsRow 0 9 1 (.slice S k R) k (B5q (l.take k))from D5k b);have A:=hid (HF.grown d (λk U=>by cases U));have y:=hid (show∀i,(Value.slice S k R).ownBlock=some i->w.heap.size<=i fromλi m=>(f i m).elim (λh=>by cases h) id);clear b d f)
   |(at_builtin;refine A0g _ rfl _ _ 44 rfl 9 J (.string ⟨#[]⟩) 1 16 Tryz.under44S m r t p rfl (by decide) _ k (B5q (l.take k)) rfl (v.alloc _) ⟨P.heap.size,0,none⟩ 1 1 [.string (ofL s)] rfl rfl (D2x _ _ _) (by intro u I;simp at I;subst I;rfl) (by unfold maxLen;omega) (by omega) ?_;intro v2 w2 b d f;obtain⟨N,n2,K,rfl⟩:=A0h b;have B:k+1=n2:=(A1a b).symm;subst B;have H:=hid (show w2.ownsRow 0 9 1 (.slice N (k+1) K) (k+1) (B5q (l.take k++[s]))from by unfold B5q;rw[List.map_append];exact b);have q:=hid ((A.alloc _).grown d (λi m=>.inr (y.out i m)));have z:=hid (show∀i,(Value.slice N (k+1) K).ownBlock=some i->w.heap.size<=i fromλi m=>(f i m).elim (λh=>y.out i h) (λh=>by have:=A.size;simp at h;omega));clear b d f v)
   |(at_builtin;refine A0g _ rfl _ _ 44 rfl 9 J (.string ⟨#[]⟩) 1 16 Tryz.under44S m r t p rfl (by decide) _ (k+1) (B5q (l.take k++[s])) rfl H.out ⟨g,0,none⟩ 0 0 [] rfl rfl (by intro j u hj;simp at hj) (by intro u I;cases I) (by unfold maxLen;omega) (by omega) ?_;intro v3 Y b d f;obtain⟨M,T,O,rfl⟩:=A0h b;have C:=hid (show SR Y (.slice M T O) (l.take k++[s]++l.drop k)from F2p Q.out b);have D:=hid (q.grown d (λi m=>.inr (z.out i m)));have F:=hid (show∀i,(Value.slice M T O).ownBlock=some i->w.heap.size<=i fromλi m=>(f i m).elim (λh=>z.out i h) (λh=>by have:=q.size;omega));clear b d f)
   |fail)
  go_ret;exact⟨_,_,_,rfl,C.out,D.out,F.out⟩
end Go.Proofs.YtmkkibaacclhnaaGreatDoor
