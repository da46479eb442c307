/-
  Part Wq.
-/
import Derived.Test.YtmkkibaacclhnaaGreatDoorRc
import Derived.Test.YtmkkibaacclhnaaGreatDoorWw
import Derived.Test.YtmkkibaacclhnaaGreatDoorWt
import Derived.Laws.AppendOwnNone
namespace Go.Proofs.YtmkkibaacclhnaaGreatDoor
open Go.RowKit
set_option maxRecDepth 100000
set_option maxHeartbeats 16000000
theorem C6m {P:Program} {f:FuncId} {args:Array Value} {w:World} {R:Ending->World->Prop} (h:Calls P f args w R):∃e w',R e w':=by
 obtain⟨e,w',_,a,_⟩:=h [];exact⟨e,w',a⟩
theorem E5w {l:LU8} {t:Tk} (w:World) (b:l.length<=1000000000000000) (hr:run t0 l=some t) (a:A8b t.st):∃r,A8v t.D t.at r:=by
 obtain⟨e,w',⟨c,_⟩⟩:=C6m (B4j l w b);obtain⟨r,h,_⟩:=c.1 t hr a;exact⟨r,h⟩
theorem B8i {l:LU8} (h:A9i l=none) {t:Tk} (hr:run t0 l=some t):¬A8b t.st:=λhE=>by
 obtain⟨neg,b,fr,en,ex,a⟩:=G0t hr hE;rw[a.cut]at h;cases h
theorem B5f {l:LU8} {neg:Bool} {a fr:LU8} {en:Bool} {ex:LU8} (w:World) (j:l.length<=1000000000000000) (i:A9i l=some (neg,a,fr,en,ex)):
 ∃t r,run t0 l=some t/\A8b t.st/\t.neg=neg/\A8v t.D t.at r/\A1t (num (dv (a++fr))) (D7j fr en ex) r:=by
 have h:=E2q i;obtain⟨k,d,b⟩:=h.run;obtain⟨r,hr⟩:=E5w w j b d;refine⟨_,r,b,d,rfl,hr,?_⟩
 have g:A8v (A1p ([],(a.length:Int)+D7j [] en ex) (dv a++dv fr)).1 (A1p ([],(a.length:Int)+D7j [] en ex) (dv a++dv fr)).2 r:=by
  have c:=B8y ([],(a.length:Int)) (D7j [] en ex) (dv a++dv fr);simp only at c;rw[c];simp only at hr ⊢;unfold Tk.at at hr;simp only at hr;refine hr.far ?_;unfold D7j;generalize (A1p ([],(a.length:Int)) (dv a++dv fr)).2=P;generalize num (dv ex)=q;cases en
  ·simp only[Bool.false_eq_true,if_false,List.length_nil];omega
  ·simp only[if_true,List.length_nil];omega
 have e:B0m (dv a++dv fr):=by rw[<-A4d];exact(h.w.1.append h.f).digs
 have:=E9z e g;rw[<-A4d,A3e,List.length_append]at this;rw[show(a.length:Int)+D7j [] en ex-((a.length+fr.length:Nat):Int)=D7j fr en ex by unfold D7j;simp only[List.length_nil];omega]at this;exact this
theorem C0j {t:Tk} {r k:Nat} (b:A8b t.st) (a:TkOk t k) (h:A8v t.D t.at r):A3n t=A2z t.neg r:=by
 unfold A3n;rw[if_pos b,D4i a.digs a.head h]
theorem C0k {t:Tk} (a:¬A8b t.st):A3n t=(0,3):=by
 unfold A3n;rw[if_neg a]
theorem C0m {l:LU8} {t:Tk} (h:run t0 l=some t):TkOk t l.length/\B3a t:=by
 have j:∀(l:LU8) (t e:Tk) (k:Nat),TkOk t k->B3a t->run t l=some e->TkOk e (k+l.length)/\B3a e:=by
  intro l
  induction l with
  |nil=>
   intro t e k f g d;simp only[run,Option.some.injEq]at d;subst d;exact⟨f,g⟩
  |cons c l ih=>
   intro t e k f g d;rw[run]at d;cases i:nxt t c with
   |none=>rw[i]at d;cases d
   |some t1=>
    rw[i]at d;obtain⟨a,b⟩:=C7r f g i;have:=ih t1 e (k+1) a b d;rw[List.length_cons,show k+(l.length+1)=k+1+l.length by omega];exact this
 have:=j l t0 t 0 E9g G1f h;rw[Nat.zero_add]at this;exact this
theorem D5j {D:List Nat} {P:Int} {r:Nat} (h:A8v D P r):oor D P=decide (9218868437227405312<=r):=by
 cases a:oor D P with
 |true=>rw[h.1 a];rfl
 |false=>
  have:=(h.2 a).2;rw[dcF (by omega)]
theorem A8f (neg:Bool) (r:Nat):((A2z neg r).2=6↔9218868437227405312<=r)/\((A2z neg r).2=0↔¬9218868437227405312<=r):=by
 unfold A2z;by_cases h:9218868437227405312<=r
 ·rw[if_pos h];simp[h]
 ·rw[if_neg h];simp[h]
theorem D8v {s:LU8} {t:Tk} (h:run t0 s=some t):A8b t.st\/∃t',run t0 (s++[48])=some t'/\A8b t'.st:=by
 have c:=(C0m h).1.st;by_cases a:A8b t.st
 ·exact .inl a
 ·right
  have b:t.st=0\/t.st=1\/t.st=4\/t.st=6\/t.st=7:=by
   unfold A8b at a;omega
  have d:beh t.st 48=2\/beh t.st 48=5\/beh t.st 48=8:=by
   rcases b with h|h|h|h|h<;>rw[h]<;>decide
  refine⟨A4q t 48 (beh t.st 48),?_,?_⟩
  ·rw[B7x 48 h]
   unfold nxt;rw[if_neg (by omega)]
  ·rw[A9e]
   unfold A8b;omega
theorem D8w {s:LU8} (h:run t0 s=none) (b:LU8):run t0 (s++b)=none:=by
 rw[A6g,h];rfl
theorem F8h {l:LU8} (w:World) (d:l.length<=1000000000000000) (h:A9i l≠none):∃t,run t0 l=some t/\A8b t.st:=by
 cases a:A9i l with
 |none=>exact absurd a h
 |some x=>
  obtain⟨neg,e,fr,en,ex⟩:=x;obtain⟨t,r,b,c,_⟩:=B5f w d a;exact⟨t,b,c⟩
noncomputable def A7c (s:LU8):Bool:=match run t0 s with
 |none=>false
 |some t=>decide ((A3n t).2=6)
theorem B6m {s:LU8} {t:Tk} (w:World) (c:s.length<=1000000000000000) (h:run t0 s=some t) (b:A8b t.st):A7c s=oor t.D t.at:=by
 obtain⟨r,hr⟩:=E5w w c h b;have d:=C0j b (C0m h).1 hr;unfold A7c;rw[h,D5j hr];simp only;rw[d];by_cases a:9218868437227405312<=r
 ·rw[dcT a,dcT ((A8f _ _).1.2 a)]
 ·rw[dcF a,dcF (λe=>a ((A8f _ _).1.1 e))]
theorem E5x {s:LU8} (h:∀t,run t0 s=some t->¬A8b t.st):A7c s=false:=by
 unfold A7c;cases hr:run t0 s with
 |none=>rfl
 |some t=>
  simp only;rw[C0k (h t hr)];decide
def B6n:LU8->Bool
 |[]=>false
 |c::r=>if c=101\/c=69 then false else if 49<=c.toNat/\c.toNat<=57 then true else B6n r
theorem G2i {st:Nat} {c:UInt8} (h:6<=st) (a:beh st c≠0):beh st c=7\/beh st c=8:=by
 unfold beh at a ⊢
 repeat' split
 all_goals simp_all
 all_goals omega
theorem E5y (t:Tk) (c:UInt8) (k:Nat) (h:k=7\/k=8):(A4q t c k).D=t.D:=by
 unfold A4q;rcases h with rfl|rfl<;>simp
theorem F8i {s:LU8} {t b:Tk} (h:6<=t.st) (hr:run t s=some b):b.D=t.D:=by
 induction s generalizing t with
 |nil=>
  simp only[run,Option.some.injEq]at hr;rw[hr]
 |cons c s ih=>
  rw[run]at hr;unfold nxt at hr;by_cases a:beh t.st c=0
  ·rw[if_pos a]at hr
   cases hr
  ·rw[if_neg a]at hr
   have d:=G2i h a;rw[ih (by rw[A9e];omega) hr,E5y _ _ _ d]
theorem G2j {s:LU8} {t q:Tk} (b:t.D=[]) (w:t.st<=5) (hr:run t s=some q) (d:q.D≠[]):B6n s=true:=by
 induction s generalizing t with
 |nil=>
  simp only[run,Option.some.injEq]at hr;rw[<-hr]at d;exact absurd b d
 |cons c s ih=>
  rw[run]at hr;unfold nxt at hr;by_cases f:beh t.st c=0
  ·rw[if_pos f]at hr
   cases hr
  rw[if_neg f]at hr;rw[B6n];by_cases g:c=101\/c=69
  ·exfalso
   have m:beh t.st c=6:=by
    unfold beh at f ⊢;rcases g with rfl|rfl
    ·repeat' split
     all_goals simp_all[isD]
    ·repeat' split
     all_goals simp_all[isD]
   have j:=F8i (by rw[A9e];omega) hr;rw[m]at j;apply d;rw[j];unfold A4q;simp[b]
  rw[if_neg g];by_cases l:49<=c.toNat/\c.toNat<=57
  ·rw[if_pos l]
  rw[if_neg l]
  have i:beh t.st c<=5:=by
   unfold beh;have r:¬(c=101\/c=69):=g
   repeat' split
   all_goals first
    |omega
    |(exfalso;rename_i h;exact r h.2)
    |(exfalso;omega)
  refine ih ?_ (by rw[A9e];exact i) hr
  have n:∀P:Int,(beh t.st c=2\/beh t.st c=3\/beh t.st c=5)->(A5p ([],P) (c.toNat-48)).1=[]:=by
   intro P m;have e:=B8x (s:=t.st) (c:=c) (by omega);have:=(A6h c).1 e;have u:c.toNat-48=0:=by omega
   rw[u];simp[A5p]
  generalize v:beh t.st c=k at*;unfold A4q;rw[b];by_cases o:k=1
  ·rw[if_pos o]
  rw[if_neg o];by_cases a:k=2\/k=3
  ·rw[if_pos a]
   exact n _ (by omega)
  rw[if_neg a];by_cases p:k=5
  ·rw[if_pos p]
   exact n _ (by omega)
  rw[if_neg p,if_neg (by omega),if_neg (by omega)]
theorem B5g {P:Program} {m h i:Machine} {a b:Nat} {c d:Outcome} {f g:World} (l:runN P a m=.next h) (j:step P h=.ended c f) (n:runN P b m=.next i) (k:step P i=.ended d g):c=d:=by
 have o:runN P (a+1) m=.ended c f:=by rw[runN_add,l];simp[runN,j]
 have p:runN P (b+1) m=.ended d g:=by rw[runN_add,n];simp[runN,k]
 have e:runN P (a+1+(b+1)) m=.ended c f:=by rw[runN_add,o]
 have q:runN P (b+1+(a+1)) m=.ended d g:=by rw[runN_add,p]
 rw[Nat.add_comm,q]at e;injection e with e _
 exact e.symm
theorem C0n {P:Program} {f:FuncId} {args:Array Value} {w:World} {a b:Value} {R S:World->Prop} (c:P.inits.idxOf? f=none) (h:Calls P f args w λe w'=>e=.returned a/\R w') (i:Calls P f args w λe w'=>e=.returned b/\S w'):a=b:=by
 obtain⟨p,v,r,⟨rfl,_⟩,⟨t,d⟩,l,j⟩:=h [];obtain⟨q,x,s,⟨rfl,_⟩,⟨u,g⟩,m,k⟩:=i [];have n:=step_leave_done j (by rw[l];exact c);have o:=step_leave_done k (by rw[m];exact c);have:=B5g d n g o;injection this
theorem C6n {a b:LU8} (h:ofL a=ofL b):a=b:=by rw[<-A0y a,<-A0y b,h]
def PrT (bits:Nat) (t:LU8):Prop:=∀w,Calls Tryz.prog 77 #[.int .u64 (bits:Int)] w λe w'=>e=.returned (.tuple #[.string (ofL t),.int .i64 0])/\Fr (λ_=>False) w w'
theorem PrT.one {a:Nat} {t u:LU8} (w:World) (b:PrT a t) (c:PrT a u):t=u:=by
 have:=C0n (by kernel_rfl) (b w) (c w);simp at this;exact C6n this
theorem B6p (a:Nat) (w:World) (u:a<18446744073709551616) (c:a % 9223372036854775808<9218868437227405312):
 Calls Tryz.prog 23 #[.int .u64 (a:Int)] w λe w'=>∃t,e=.returned (.tuple #[.string (ofL t),.int .i64 0])/\PrT a t/\t.length<=101/\Fr (λ_=>False) w w':=by
 obtain⟨m,q⟩:∃m,a % 9223372036854775808=m:=⟨_,rfl⟩;have k:=A2j a u;rw[q]at k;rw[q]at c;by_cases r:a<9223372036854775808
 ·obtain rfl:a=m:=by omega
  have o:decide ((9223372036854775808:Int)<=(a:Int))=false:=dcF (by omega);by_cases g:a<9218868437227405312
  ·have j:decide ((9218868437227405312:Int)<=(a:Int))=false:=dcF (by omega)
   by_cases d:a=0
   ·subst d
    refine(B5y 0 0 w k rfl).mono ?_;rintro e w' ⟨rfl,i⟩;exact⟨[48],rfl,λw=>(C9s w).mono λe w' ⟨b,f⟩=>⟨b,by rw[f];exact Fr.refl _ _⟩,by simp,i⟩
   ·refine(A9x a a w k d g).mono ?_
    rintro e w' ⟨D,h,n,s,b,f,rfl,i⟩;refine⟨B3b (dgs D) h,by rw[bne_self_eq_false];rfl,λw=>?_,by have:=C5a (dgs D) h (A2b D (by omega)) b f;(try simp only[List.length_append,List.length_singleton]);omega,i⟩;exact F2g a (dgs D) h w o j (bqF (by omega)) (B9f D) (A2b D (by omega)) b f (λw=>C3s a D h w n d g b (F5p a d) (F5q a g))
  ·exact absurd c g
 ·have o:decide ((9223372036854775808:Int)<=(a:Int))=true:=dcT (by omega)
  have l:IntKind.u64.wrap ((a:Int)-9223372036854775808)=(m:Int):=by
   rw[show(a:Int)-9223372036854775808=(m:Int) by omega];exact IntWalk.u64_in _ ⟨by omega,by clear k;omega⟩
  have p:(a !=m)=true:=bne_iff_ne.2 (by omega);by_cases g:m<9218868437227405312
  ·have j:decide ((9218868437227405312:Int)<=(m:Int))=false:=dcF (by omega)
   by_cases d:m=0
   ·subst d
    obtain rfl:a=9223372036854775808:=by omega
    refine(B5y 9223372036854775808 0 w k rfl).mono ?_;rintro e w' ⟨rfl,i⟩;exact⟨[45,48],rfl,λw=>(C9t w).mono λe w' ⟨b,f⟩=>⟨b,by rw[f];exact Fr.refl _ _⟩,by simp,i⟩
   ·refine(A9x a m w k d g).mono ?_
    rintro e w' ⟨D,h,n,s,b,f,rfl,i⟩;refine⟨[45]++B3b (dgs D) h,by rw[p];rfl,λw=>?_,by have:=C5a (dgs D) h (A2b D (by omega)) b f;(try simp only[List.length_append,List.length_singleton]);omega,i⟩;exact F2h a m (dgs D) h w o l j (bqF (by omega)) (B9f D) (A2b D (by omega)) b f (λw=>C3s m D h w n d g b (F5p m d) (F5q m g))
  ·exact absurd c g
theorem G2k (a:Nat) (w:World) (c:a<18446744073709551616) (b:a % 9223372036854775808<9218868437227405312):∃t,PrT a t:=by
 obtain⟨e,w',t,_,h,_⟩:=C6m (B6p a w c b);exact⟨t,h⟩
theorem F8j (a:Nat) (w:World) (d:a<18446744073709551616) (b:a % 9223372036854775808<9218868437227405312):∃t,PrT a t/\t.length<=101:=by
 obtain⟨e,w',t,_,h,c,_⟩:=C6m (B6p a w d b);exact⟨t,h,c⟩
open Classical in
noncomputable def A9p (bits:Nat):LU8:=if h:∃t,PrT bits t then Classical.choose h else[]
theorem C0p {a:Nat} {t:LU8} (w:World) (h:PrT a t):A9p a=t:=by
 unfold A9p;rw[dif_pos ⟨t,h⟩];exact PrT.one w (Classical.choose_spec (⟨t,h⟩:∃t,PrT a t)) h
theorem C3t (w:World) (a:Nat) (d:a<18446744073709551616) (b:a % 9223372036854775808<9218868437227405312):(A9p a).length<=101:=by
 obtain⟨t,h,c⟩:=F8j a w d b;rw[C0p w h];exact c
theorem F2n (a:Nat) (w:World) (c:a<18446744073709551616) (b:a % 9223372036854775808<9218868437227405312):
 Calls Tryz.prog 77 #[.int .u64 (a:Int)] w λe w'=>e=.returned (.tuple #[.string (ofL (A9p a)),.int .i64 0])/\Fr (λ_=>False) w w':=by
 obtain⟨t,h⟩:=G2k a w c b;rw[C0p w h];exact h w
theorem C6p (a:Nat) (w:World) (d:a<18446744073709551616) (b:a % 9223372036854775808<9218868437227405312):
 Calls Tryz.prog 23 #[.int .u64 (a:Int)] w λe w'=>e=.returned (.tuple #[.string (ofL (A9p a)),.int .i64 0])/\Fr (λ_=>False) w w':=by
 refine(B6p a w d b).mono ?_;rintro e w' ⟨t,f,h,_,c⟩;rw[C0p w h];exact⟨f,c⟩
def B5q (l:List (LU8)):List Value:=l.map λs=>.string (ofL s)
theorem Tryz.info9S:(Tryz.prog.info? 9).map (λi=>(i.zero,i.size,i.bytes))=some (some (.string ⟨#[]⟩),1,16):=by kernel_rfl
theorem C0q:∃i,Tryz.prog.info? 9=some i/\i.zero=some (.string ⟨#[]⟩)/\i.size=1/\i.bytes=16:=by
 have h:=Tryz.info9S;cases a:Tryz.prog.info? 9 with
 |none=>rw[a]at h;cases h
 |some i=>rw[a]at h;simp at h;exact⟨i,rfl,h.1,h.2.1,h.2.2⟩
theorem Tryz.under44S:Tryz.prog.underlying 44=some (.slice 9):=by kernel_rfl
def SR (w:World) (V:Value) (l:List (LU8)):Prop:=w.ownsRow 0 9 1 V l.length (B5q l)
theorem SR.nil (w:World):SR w (.slice none 0 0) []:=⟨rfl,.inl ⟨rfl,rfl⟩⟩
theorem C6q (l:List (LU8)):∀u,u∈B5q l->u.oneCell'=true:=by
 intro u a;obtain⟨s,_,rfl⟩:=List.mem_map.1 a;rfl
theorem D2x (w:World) (a:Value) (e:Nat):∀j u,[a][j]? =some u->(w.alloc (.cells #[a] e)).cell? ((⟨w.heap.size,0,none⟩:Addr).add j)=some u:=by
 intro j u b;have c:=heap_alloc_new w (.cells #[a] e)
 match j,b with
 |0,b=>simp at b;subst b;exact A0a c rfl
theorem B2a {w:World} {e size g n cap:Nat} {xs:List Value} (h:w.ownsRow 0 e size (.slice (some ⟨g,0,none⟩) n cap) n xs):g<w.heap.size:=by
 rcases h.2 with⟨d,_⟩|⟨i,a,c,b,j,f,k⟩
 ·cases d
 ·simp at b
  obtain⟨rfl,rfl⟩:=b;exact lt_of_block f
theorem F8k (s:LU8) (w:World):
 Calls Tryz.prog 79 #[.slice none 0 0,.int .i64 0,.string (ofL s)] w λe w'=>∃a n c,e=.returned (.slice a n c)/\SR w' (.slice a n c) [s]/\Fr (λ_=>False) w w'/\∀i,(Value.slice a n c).ownBlock=some i->w.heap.size<=i:=by
 obtain⟨q,g,l,m,p⟩:=C0q;have v:=hid (λo=>(Fr.refl (λ_=>False) w).alloc o);go_enter Tryz.func79,Tryz.ntmps79
 go_wp2_with (first
  |(at_builtin;refine wpList_append_own_none rfl _ _ 44 rfl 0 9 q 1 Tryz.under44S g _ 0 [] rfl (World.ownsRow_nil _ 0 9 1) rfl ?_)
  |(at_builtin;refine wpList_append_own_none rfl _ _ 44 rfl 0 9 q 1 Tryz.under44S g _ 1 [.string (ofL s)] rfl r.out rfl ?_)
  |(at_builtin;refine A0g _ rfl _ _ 44 rfl 9 q (.string ⟨#[]⟩) 1 16 Tryz.under44S g l m p rfl (by decide) _ 0 [] rfl (World.ownsRow_nil _ 0 9 1) ⟨w.heap.size,0,none⟩ 1 1 [.string (ofL s)] rfl rfl (D2x _ _ _) (by intro u t;simp at t;subst t;rfl) (by unfold maxLen;omega) (by omega) ?_;intro C A b d f;obtain⟨y,B,z,rfl⟩:=A0h b;obtain rfl:=A1a b;have r:=hid (show A.ownsRow 0 9 1 (.slice y 1 z) 1 [.string (ofL s)]from b);have j:=hid ((v.out _).grown d (λk hk=>by cases hk));have x:=hid f;clear b d f)
  |fail)
 go_ret;refine⟨_,_,_,rfl,r.out,j.out,λi g=>?_⟩;rcases x.out i g with h|h
 ·cases h
 ·simp at h;omega
theorem D5k {w:World} {V:Value} {k:Nat} {xs:List Value} (h:w.ownsRow 0 9 1 V (0+k) ([]++xs)):w.ownsRow 0 9 1 V k xs:=by
 rw[Nat.zero_add]at h;exact h
theorem C9w {w:World} {g n cap:Nat} {l:List (LU8)} (h:w.ownsRow 0 9 1 (.slice (some ⟨g,0,none⟩) n cap) n (B5q l)) (o:Nat) (c:List (LU8)) (e:∀j x,c[j]? =some x->l[o+j]? =some x):∀j u,(B5q c)[j]? =some u->w.cell? ((⟨g,o,none⟩:Addr).add j)=some u:=by
 intro j u a;unfold B5q at a;rw[List.getElem?_map]at a;cases b:c[j]? with
 |none=>rw[b]at a;cases a
 |some x=>
  rw[b]at a;have d:=A2c h (o+j) u (by unfold B5q;rw[List.getElem?_map,e j x b];exact a);cases j with
  |zero=>simpa[Addr.add]using d
  |succ j=>simpa[Addr.add]using d
theorem F2p {w:World} {V:Value} {k:Nat} {s:LU8} {l:List (LU8)} (h:(l.take k).length=k/\(l.drop k).length=k-k) (hr:w.ownsRow 0 9 1 V (k+1+0) (B5q (l.take k++[s])++[])):SR w V (l.take k++[s]++l.drop k):=by
 have a:l.drop k=[]:=List.eq_nil_of_length_eq_zero (by omega);unfold SR;rw[a,List.append_nil,show(l.take k++[s]).length=k+1 by simp only[List.length_append,List.length_singleton];omega];rw[List.append_nil]at hr;exact hr
theorem F2q (s:LU8) (w:World) (g n cap k:Nat) (l:List (LU8)) (h:SR w (.slice (some ⟨g,0,none⟩) n cap) l) (U:k<=n) (a7:0<n) (a8:n<=cap) (hn:n<=10000000):
 Calls Tryz.prog 79 #[.slice (some ⟨g,0,none⟩) n cap,.int .i64 (k:Int),.string (ofL s)] w λe w'=>∃a n' c,e=.returned (.slice a n' c)/\SR w' (.slice a n' c) (l.take k++[s]++l.drop k)/\Fr (λ_=>False) w w'/\∀i,(Value.slice a n' c).ownBlock=some i->w.heap.size<=i:=by
 obtain⟨J,m,q,r,t⟩:=C0q;have F:l.length=n:=(A1a h).symm;have o:w.ownsRow 0 9 1 (.slice (some ⟨g,0,none⟩) n cap) n (B5q l):=by have:=h;unfold SR at this;rw[F]at this;exact this
 have a0:=hid o;have HF:=hid (Fr.refl (λ_=>False) w);have a4:=B2a o;have L:=hid (show(l.take k).length=k/\(l.drop k).length=n-k from⟨by simp;omega,by simp;omega⟩)
 have K:=hid (C9w o 0 (l.take k) (λj x hx=>by
  rw[List.getElem?_take]at hx;split at hx
  ·simpa using hx
  ·cases hx))
 have V:=hid (λ(wx:World) (hf:Fr (λ_=>False) w wx)=>C9w (A7e o hf (λi m=>id)) k (l.drop k) (λj x hx=>by rw[List.getElem?_drop]at hx;exact hx));have a6:(k:Int)<=(n:Int):=by omega
 have a5:(k:Int)<=(cap:Int):=by omega
 have a9:(n:Int)<=(cap:Int):=by omega
 have HL:=hid F;clear h o F;by_cases W:k<cap
 ·go_enter Tryz.func79,Tryz.ntmps79
  go_wp2_with (first
   |(at_builtin;refine A0g _ rfl _ _ 44 rfl 9 J (.string ⟨#[]⟩) 1 16 Tryz.under44S m q r t rfl (by decide) _ 0 [] rfl (World.ownsRow_nil _ 0 9 1) ⟨g,0,none⟩ k cap (B5q (l.take k)) rfl (by have:=L.1;unfold B5q;rw[List.length_map];omega) K.out (C6q _) (by unfold maxLen;omega) (by omega) ?_;intro v1 T b d f;obtain⟨M,Z,P,rfl⟩:=A0h b;have G:k=Z:=((A1a b).trans (Nat.zero_add k)).symm;subst G;have A:=hid (show T.ownsRow 0 9 1 (.slice M k P) k (B5q (l.take k))from D5k b);have v:=hid (HF.grown d (λk U=>by cases U));have y:=hid (show∀i,(Value.slice M k P).ownBlock=some i->w.heap.size<=i fromλi m=>(f i m).elim (λh=>by cases h) id);clear b d f)
   |(at_builtin;refine A0g _ rfl _ _ 44 rfl 9 J (.string ⟨#[]⟩) 1 16 Tryz.under44S m q r t rfl (by decide) _ k (B5q (l.take k)) rfl (A.alloc _) ⟨T.heap.size,0,none⟩ 1 1 [.string (ofL s)] rfl rfl (D2x _ _ _) (by intro u I;simp at I;subst I;rfl) (by unfold maxLen;omega) (by omega) ?_;intro v2 w2 b d f;obtain⟨N,n2,Q,rfl⟩:=A0h b;have H:k+1=n2:=(A1a b).symm;subst H;have D:=hid (show w2.ownsRow 0 9 1 (.slice N (k+1) Q) (k+1) (B5q (l.take k++[s]))from by unfold B5q;rw[List.map_append];exact b);have p:=hid ((v.alloc _).grown d (λi m=>.inr (y.out i m)));have z:=hid (show∀i,(Value.slice N (k+1) Q).ownBlock=some i->w.heap.size<=i fromλi m=>(f i m).elim (λh=>y.out i h) (λh=>by have:=v.size;simp at h;omega));clear b d f A)
   |(at_builtin;refine A0g _ rfl _ _ 44 rfl 9 J (.string ⟨#[]⟩) 1 16 Tryz.under44S m q r t rfl (by decide) _ (k+1) (B5q (l.take k++[s])) rfl D.out ⟨g,k,none⟩ (n-k) (cap-k) (B5q (l.drop k)) rfl (by have:=L.2;unfold B5q;rw[List.length_map];omega) (V.out _ p.out) (C6q _) (by unfold maxLen;omega) (by omega) ?_;intro v3 w3 b d f;obtain⟨O,S,R,rfl⟩:=A0h b;have E:=hid (show SR w3 (.slice O S R) (l.take k++[s]++l.drop k)from by(unfold SR;have h1:=L.out;rw[show(l.take k++[s]++l.drop k).length=k+1+(n-k) by simp only[List.length_append,List.length_singleton];omega];have h2:=b;unfold B5q at h2 ⊢;rw[List.map_append];exact h2));have B:=hid (p.grown d (λi m=>.inr (z.out i m)));have C:=hid (show∀i,(Value.slice O S R).ownBlock=some i->w.heap.size<=i fromλi m=>(f i m).elim (λh=>z.out i h) (λh=>by have:=p.size;omega));clear b d f)
   |fail)
  go_ret;exact⟨_,_,_,rfl,E.out,B.out,C.out⟩
 ·have X:k=cap:=by omega
  subst X;have Y:k=n:=by omega
  subst Y;go_enter Tryz.func79,Tryz.ntmps79
  go_wp2_with (first
   |(at_builtin;refine A0g _ rfl _ _ 44 rfl 9 J (.string ⟨#[]⟩) 1 16 Tryz.under44S m q r t rfl (by decide) _ 0 [] rfl (World.ownsRow_nil _ 0 9 1) ⟨g,0,none⟩ k k (B5q (l.take k)) rfl (by have:=L.1;unfold B5q;rw[List.length_map];omega) K.out (C6q _) (by unfold maxLen;omega) (by omega) ?_;intro v1 T b d f;obtain⟨M,Z,P,rfl⟩:=A0h b;have G:k=Z:=((A1a b).trans (Nat.zero_add k)).symm;subst G;have A:=hid (show T.ownsRow 0 9 1 (.slice M k P) k (B5q (l.take k))from D5k b);have v:=hid (HF.grown d (λk U=>by cases U));have y:=hid (show∀i,(Value.slice M k P).ownBlock=some i->w.heap.size<=i fromλi m=>(f i m).elim (λh=>by cases h) id);clear b d f)
   |(at_builtin;refine A0g _ rfl _ _ 44 rfl 9 J (.string ⟨#[]⟩) 1 16 Tryz.under44S m q r t rfl (by decide) _ k (B5q (l.take k)) rfl (A.alloc _) ⟨T.heap.size,0,none⟩ 1 1 [.string (ofL s)] rfl rfl (D2x _ _ _) (by intro u I;simp at I;subst I;rfl) (by unfold maxLen;omega) (by omega) ?_;intro v2 w2 b d f;obtain⟨N,n2,Q,rfl⟩:=A0h b;have H:k+1=n2:=(A1a b).symm;subst H;have D:=hid (show w2.ownsRow 0 9 1 (.slice N (k+1) Q) (k+1) (B5q (l.take k++[s]))from by unfold B5q;rw[List.map_append];exact b);have p:=hid ((v.alloc _).grown d (λi m=>.inr (y.out i m)));have z:=hid (show∀i,(Value.slice N (k+1) Q).ownBlock=some i->w.heap.size<=i fromλi m=>(f i m).elim (λh=>y.out i h) (λh=>by have:=v.size;simp at h;omega));clear b d f A)
   |(at_builtin;refine A0g _ rfl _ _ 44 rfl 9 J (.string ⟨#[]⟩) 1 16 Tryz.under44S m q r t rfl (by decide) _ (k+1) (B5q (l.take k++[s])) rfl D.out ⟨g,0,none⟩ 0 0 [] rfl rfl (by intro j u hj;simp at hj) (by intro u I;cases I) (by unfold maxLen;omega) (by omega) ?_;intro v3 w3 b d f;obtain⟨O,S,R,rfl⟩:=A0h b;have E:=hid (show SR w3 (.slice O S R) (l.take k++[s]++l.drop k)from F2p L.out b);have B:=hid (p.grown d (λi m=>.inr (z.out i m)));have C:=hid (show∀i,(Value.slice O S R).ownBlock=some i->w.heap.size<=i fromλi m=>(f i m).elim (λh=>z.out i h) (λh=>by have:=p.size;omega));clear b d f)
   |fail)
  go_ret;exact⟨_,_,_,rfl,E.out,B.out,C.out⟩
end Go.Proofs.YtmkkibaacclhnaaGreatDoor
