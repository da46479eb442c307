/-
  Part Rc.
-/
import Derived.Test.YtmkkibaacclhnaaGreatDoorPt
namespace Go.Proofs.YtmkkibaacclhnaaGreatDoor
open Go.RowKit
theorem B9u {s c:Ps} {a b:Nat} (e:A6b s a b=.ok c):c.came=s.came:=by
 unfold A6b at e;split at e
 ·cases e
 ·cases e;rfl
theorem C3a {s:Ps} {a b n:Nat} (e:A6b s a b=.error n):n≠0:=by
 unfold A6b at e;split at e
 ·cases e;omega
 ·cases e
theorem C8k {s a:Ps} {c:UInt8} (e:A3c s c=.ok a):a.came=s.came:=by
 unfold A3c at e;split at e
 ·cases e;rfl
 split at e
 ·cases e;rfl
 split at e
 ·cases e;rfl
 split at e
 ·cases e;rfl
 split at e
 ·exact B9u e
 split at e
 ·exact B9u e
 split at e
 ·cases e
 ·cases e;rfl
theorem D2b {s:Ps} {c:UInt8} {n:Nat} (e:A3c s c=.error n):n≠0:=by
 unfold A3c at e;split at e
 ·cases e
 split at e
 ·cases e
 split at e
 ·cases e
 split at e
 ·cases e
 split at e
 ·exact C3a e
 split at e
 ·exact C3a e
 split at e
 ·cases e;omega
 ·cases e
theorem C3b {s a:Ps} {c:UInt8} (e:B3p s c=.ok a):a.came=s.came:=by
 unfold B3p at e;split at e
 ·cases e;rfl
 unfold A3f at e;split at e
 ·cases e;rfl
 split at e
 ·exact C8k e
 split at e
 ·cases e;rfl
 split at e
 ·cases e;rfl
 split at e
 ·unfold A4m at e
  split at e
  ·cases e;rfl
  split at e
  ·cases e;rfl
  split at e
  ·cases e;rfl
  ·cases e
 ·cases e
theorem C8m {s:Ps} {c:UInt8} {n:Nat} (e:B3p s c=.error n):n≠0:=by
 unfold B3p at e;split at e
 ·cases e
 unfold A3f at e;split at e
 ·cases e
 split at e
 ·exact D2b e
 split at e
 ·cases e
 split at e
 ·cases e
 split at e
 ·unfold A4m at e
  split at e
  ·cases e
  split at e
  ·cases e
  split at e
  ·cases e
  ·cases e;omega
 ·cases e;omega
theorem C5r {α β:Type} {x:Except Nat α} {f:α->β} {n:Nat} (e:x.map f=.error n):x=.error n:=by
 cases x with
 |error m=>exact congrArg _ (by simpa[Except.map]using e)
 |ok a=>cases e
theorem D2c {t:Tr} {c:UInt8} {n:Nat} (e:A2q t c=.error n):n≠0:=by
 unfold A2q at e;split at e
 ·have e:=C5r e
  unfold E9k at e;split at e
  ·cases e;omega
  ·cases e
 split at e
 ·have e:=C5r e
  unfold B7m at e;split at e
  ·cases e
  split at e
  ·cases e;omega
  split at e
  ·cases e;omega
  ·cases e
 split at e
 ·have e:=C5r e
  unfold B7n at e;split at e
  ·cases e;omega
  split at e
  ·split at e
   ·cases e;omega
   ·cases e
  split at e
  ·split at e
   ·cases e;omega
   ·cases e
  split at e
  ·cases e
  ·cases e
 unfold A9f at e;split at e
 ·cases e
 split at e
 ·cases e;omega
 split at e
 ·cases e
 split at e
 ·cases e;omega
 split at e
 ·cases e
 have e:=C5r e;unfold C4s at e;split at e
 ·cases e
 ·cases e;omega
theorem B3f {s a:Ps} (e:A2f s=.ok a):a.came=s.came/\a.opn=s.opn/\a.st=5:=by
 unfold A2f at e;split at e
 ·cases e
 ·cases e;exact⟨rfl,rfl,rfl⟩
theorem B3t {s a:Ps} {c:UInt8} (e:A1u s c=.ok a):a.came=s.came:=by
 unfold A1u at e;split at e
 ·unfold A6t at e
  split at e
  ·cases e
  split at e
  ·cases e
  split at e
  ·cases e;rfl
  ·cases e;rfl
 split at e
 ·unfold A6j at e
  split at e
  ·split at e
   ·cases e
   ·cases e;rfl
  ·split at e
   ·cases e
   ·rename_i s1 h1
    exact(C3b e).trans (B3f h1).1
 split at e
 ·unfold A5r at e
  split at e
  ·cases e
  ·cases e;rfl
  ·split at e
   ·cases e;rfl
   ·cases e;rfl
 ·exact C3b e
theorem D7s {s:Ps} {c:UInt8} {n:Nat} (e:A1u s c=.error n):n≠0:=by
 unfold A1u at e;split at e
 ·unfold A6t at e
  split at e
  ·cases e;omega
  split at e
  ·cases e;omega
  split at e
  ·cases e
  ·cases e
 split at e
 ·unfold A6j at e
  split at e
  ·split at e
   ·cases e;omega
   ·cases e
  ·split at e
   ·rename_i m h1
    unfold A2f at h1;split at h1
    ·rename_i h2
     cases h1;cases e;exact h2
    ·cases h1
   ·exact C8m e
 split at e
 ·unfold A5r at e
  split at e
  ·rename_i m h1
   cases e;exact D2c h1
  ·cases e
  ·split at e<;>cases e
 ·exact C8m e
theorem C3c {s a:Ps} {l:LU8} (e:A0p s l=.ok a):a.came=s.came+l.length:=by
 induction l generalizing s with
 |nil=>simp only[A0p,Except.ok.injEq]at e;subst e;rfl
 |cons c l ih=>
  rw[A0p]at e;split at e
  ·cases e
  ·rename_i s1 h1
   have b:=ih e;have d:=B3t h1;rw[b,List.length_cons,show(A9y s1).came=s1.came+1 from rfl,d];omega
theorem A9z {s:Ps} {l:LU8} {n c:Nat} (e:A0p s l=.error (n,c)):n≠0/\s.came<=c/\c<s.came+l.length/\∀j,(c<s.came+j->A0p s (l.take j)=.error (n,c))/\(s.came+j<=c->∃s',A0p s (l.take j)=.ok s'):=by
 induction l generalizing s with
 |nil=>simp[A0p]at e
 |cons x l ih=>
  have i:=e;rw[A0p]at e;split at e
  ·rename_i m h1
   simp only[Except.error.injEq,Prod.mk.injEq]at e;obtain⟨rfl,rfl⟩:=e;refine⟨D7s h1,Nat.le_refl _,by simp,λj=>⟨λhj=>?_,λhj=>?_⟩⟩
   ·cases j with
    |zero=>omega
    |succ j=>
     rw[List.take_succ_cons,A0p,h1]
   ·have:j=0:=by omega
    subst this;exact⟨s,rfl⟩
  ·rename_i s1 h1
   have g:=B3t h1;obtain⟨a,b,d,f⟩:=ih e;have h:(A9y s1).came=s.came+1:=by rw[<-g];rfl
   rw[h]at b d f;refine⟨a,by omega,by rw[List.length_cons];omega,λj=>?_⟩;cases j with
   |zero=>exact⟨λhj=>by omega,λ_=>⟨s,rfl⟩⟩
   |succ j=>
    rw[List.take_succ_cons,A0p,h1];have:=f j;exact⟨λhj=>this.1 (by omega),λhj=>this.2 (by omega)⟩
theorem D4s {s a:Ps} {m k:Nat} {l:LU8} (h:PsOk s m k) (e:A0p s l=.ok a):PsOk a (m+3*l.length) (k+l.length):=by
 induction l generalizing s m k with
 |nil=>simp only[A0p,Except.ok.injEq]at e;subst e;exact h
 |cons c l ih=>
  rw[A0p]at e;split at e
  ·cases e
  ·rename_i s1 h1
   have:=ih (C8j (C8i h h1)) e;rw[List.length_cons,show m+3*(l.length+1)=m+3+3*l.length by omega,show k+(l.length+1)=k+1+l.length by omega];exact this
noncomputable def A7t (s:Ps):List It×Nat:=
 if s.st=7/\s.opn=[]then
  match A2f s with
  |.error n=>if n=6 then([],6)else([],7)
  |.ok s'=>(s'.items,0)
 else if s.st=5/\s.opn=[]then(s.items,0)else([],7)
noncomputable def A5m:Except (Nat×Nat) Ps->List It×Nat×Nat
 |.error (n,c)=>([],n,c)
 |.ok s=>((A7t s).1,(A7t s).2,s.came)
def D2d:Except (Nat×Nat) Ps->Nat
 |.error (n,_)=>n
 |.ok _=>0
theorem B6d {s:Ps} (c:UInt8) (h:s.st<=5):A1u s c=B3p s c:=by
 unfold A1u;rw[if_neg (by omega),if_neg (by omega),if_neg (by omega)]
theorem C8n {s:Ps} (c:UInt8) (h:s.st<=5) (a:B2x c=true):A1u s c=.ok s:=by
 rw[B6d c h];unfold B3p;rw[if_pos a]
inductive RV where
 |ok (n:Nat) (its:List It) (rest:LU8)
 |wrong (n:Nat) (rest:LU8)
 |ended (late:Bool)
def A0s:LU8->LU8
 |[]=>[]
 |c::r=>if B2x c=true then A0s r else c::r
def A3a:LU8->LU8->RO Unit
 |[],r=>.ok () r
 |_::_,[]=>.ended
 |x::w,c::r=>if c≠x then .wrong 3 (c::r)else A3a w r
inductive NO where
 |stop (t:Tk) (rest:LU8)
 |lost (rest:LU8)
 |ended (t:Tk)
def A5n (t:Tk):LU8->NO
 |[]=>.ended t
 |c::r=>match nxt t c with
  |none=>.stop t (c::r)
  |some t'=>if A3b t'=true then .lost (c::r)else A5n t' r
noncomputable def A4v (inn:Nat) (r:LU8):RV:=match A5n t0 r with
 |.lost q=>.wrong 6 q
 |.stop t q=>if(A3n t).2≠0 then .wrong (A3n t).2 q else .ok 0 [⟨3,0,(A3n t).1,[]⟩] q
 |.ended t=>if(A3n t).2=0 then .ok 0 [⟨3,0,(A3n t).1,[]⟩] []else .ended (decide ((A3n t).2=6/\inn=0))
def A8n (k:Nat) (w r:LU8):RV:=match A3a w r with
 |.ok _ q=>.ok 0 [⟨k,0,0,[]⟩] q
 |.wrong n q=>.wrong n q
 |.ended=>.ended false
def B2y (r:LU8):RV:=match A1i tr0 r with
 |.ok s q=>.ok 0 [⟨4,0,0,s⟩] q
 |.wrong n q=>.wrong n q
 |.ended=>.ended false
inductive Md where
 |val|vals|pairs|pair
 |valsGo (n:Nat) (acc:List It)
 |pairsGo (n:Nat) (acc:List It)
def B7r (k:Nat):RV->RV
 |.ok n its q=>.ok 0 (⟨k,n,0,[]⟩::its) q
 |.wrong n q=>.wrong n q
 |.ended l=>.ended l
noncomputable def rGo (depth:Nat):Nat->Nat->Md->LU8->RV
 |0,_,_,_=>.ended false
 |f+1,inn,m,r=>match m with
  |.val=>match A0s r with
   |[]=>.ended false
   |c::q=>
    if c=34 then B2y q
    else if c=91 then(if inn=depth then .wrong 4 (c::q)else B7r 5 (rGo depth f (inn+1) .vals q))
    else if c=123 then(if inn=depth then .wrong 4 (c::q)else B7r 6 (rGo depth f (inn+1) .pairs q))
    else if c=45\/isD c=true then A4v inn (c::q)
    else if c=110 then A8n 0 [110,117,108,108] (c::q)
    else if c=102 then A8n 1 [102,97,108,115,101] (c::q)
    else if c=116 then A8n 2 [116,114,117,101] (c::q)
    else .wrong 3 (c::q)
  |.vals=>match A0s r with
   |[]=>.ended false
   |c::q=>if c=93 then .ok 0 [] q else rGo depth f inn (.valsGo 1 []) (c::q)
  |.valsGo n acc=>match rGo depth f inn .val r with
   |.wrong e q=>.wrong e q
   |.ended l=>.ended l
   |.ok _ its p=>match A0s p with
    |[]=>.ended false
    |c::q=>if c=93 then .ok n (acc++its) q else if c=44 then rGo depth f inn (.valsGo (n+1) (acc++its)) q else .wrong 3 (c::q)
  |.pairs=>match A0s r with
   |[]=>.ended false
   |c::q=>if c=125 then .ok 0 [] q else rGo depth f inn (.pairsGo 1 []) (c::q)
  |.pairsGo n acc=>match rGo depth f inn .pair r with
   |.wrong e q=>.wrong e q
   |.ended l=>.ended l
   |.ok _ its p=>match A0s p with
    |[]=>.ended false
    |c::q=>if c=125 then .ok n (acc++its) q else if c=44 then rGo depth f inn (.pairsGo (n+1) (acc++its)) q else .wrong 3 (c::q)
  |.pair=>match A0s r with
   |[]=>.ended false
   |c::q=>if c≠34 then .wrong 3 (c::q)else match A1i tr0 q with
    |.wrong e p=>.wrong e p
    |.ended=>.ended false
    |.ok s p=>match A0s p with
     |[]=>.ended false
     |c2::q2=>if c2≠58 then .wrong 3 (c2::q2)else match rGo depth f inn .val q2 with
      |.wrong e p2=>.wrong e p2
      |.ended l=>.ended l
      |.ok _ its p2=>.ok 0 (⟨4,0,0,s⟩::its) p2
def A5g (m:Md) (r:LU8):Nat:=4*r.length+match m with
 |.val=>1
 |.pair=>2
 |.valsGo _ _=>2
 |.vals=>3
 |.pairsGo _ _=>3
 |.pairs=>4
theorem A0x (r:LU8):A0s r<:+r:=by
 induction r with
 |nil=>exact List.suffix_refl _
 |cons c r ih=>
  rw[A0s];split
  ·exact ih.trans (List.suffix_cons c r)
  ·exact List.suffix_refl _
theorem A6k {r q:LU8} {c:UInt8} (h:A0s r=c::q):B2x c=false:=by
 induction r with
 |nil=>cases h
 |cons x r ih=>
  rw[A0s]at h;split at h
  ·exact ih h
  ·rename_i hb
   cases h;exact Bool.eq_false_iff.2 hb
def RO.suf {α:Type} (r:LU8):RO α->Prop
 |.ok _ q=>q<:+r
 |.wrong _ q=>q<:+r/\q≠[]
 |.ended=>True
def RV.suf (r:LU8):RV->Prop
 |.ok _ _ q=>q<:+r
 |.wrong _ q=>q<:+r/\q≠[]
 |.ended _=>True
theorem RO.suf.mono {α:Type} {r b:LU8} {x:RO α} (h:x.suf r) (hr:r<:+b):x.suf b:=by
 cases x with
 |ok a q=>exact h.trans hr
 |wrong n q=>exact⟨h.1.trans hr,h.2⟩
 |ended=>trivial
theorem RV.suf.mono {r c:LU8} {x:RV} (h:x.suf r) (hr:r<:+c):x.suf c:=by
 cases x with
 |ok a b q=>exact List.IsSuffix.trans h hr
 |wrong n q=>exact⟨h.1.trans hr,h.2⟩
 |ended=>trivial
theorem A7u {c:UInt8} {q:LU8}:(c::q)<:+(c::q)/\(c::q)≠[]:=⟨List.suffix_refl _,by simp⟩
theorem B0a (t:Tr) (r:LU8):(A1i t r).suf r:=by
 induction r generalizing t with
 |nil=>trivial
 |cons c r ih=>
  rw[A1i];split
  ·exact A7u
  ·exact List.suffix_cons c r
  ·exact(ih _).mono (List.suffix_cons c r)
theorem D7t (w r:LU8):(A3a w r).suf r:=by
 induction w generalizing r with
 |nil=>exact List.suffix_refl _
 |cons x w ih=>
  cases r with
  |nil=>trivial
  |cons c r=>
   rw[A3a];split
   ·exact A7u
   ·exact(ih r).mono (List.suffix_cons c r)
theorem B4r (t:Tk) (r:LU8):match A5n t r with|.stop _ q=>q<:+r/\q≠[]|.lost q=>q<:+r/\q≠[]|.ended _=>True:=by
 induction r generalizing t with
 |nil=>trivial
 |cons c r ih=>
  rw[A5n];cases nxt t c with
  |none=>exact A7u
  |some t'=>
   simp only;split
   ·rename_i h
    split at h
    ·cases h
    ·rename_i t2 q2 _
     have:=ih t';rw[h]at this;exact⟨this.1.trans (List.suffix_cons c r),this.2⟩
   ·rename_i h
    split at h
    ·cases h;exact A7u
    ·have:=ih t'
     rw[h]at this;exact⟨this.1.trans (List.suffix_cons c r),this.2⟩
   ·trivial
theorem D7u (inn:Nat) (r:LU8):(A4v inn r).suf r:=by
 have h:=B4r t0 r;unfold A4v;cases a:A5n t0 r with
 |lost q=>rw[a]at h;exact h
 |stop t q=>
  rw[a]at h;simp only;split
  ·exact h
  ·exact h.1
 |ended t=>
  simp only;split
  ·exact List.nil_suffix
  ·trivial
theorem B9v (k:Nat) (w r:LU8):(A8n k w r).suf r:=by
 have h:=D7t w r;unfold A8n;cases b:A3a w r with
 |ok a q=>rw[b]at h;exact h
 |wrong n q=>rw[b]at h;exact h
 |ended=>trivial
theorem E3f (r:LU8):(B2y r).suf r:=by
 have h:=B0a tr0 r;unfold B2y;cases b:A1i tr0 r with
 |ok a q=>rw[b]at h;exact h
 |wrong n q=>rw[b]at h;exact h
 |ended=>trivial
theorem C8p {k:Nat} {r:LU8} {x:RV} (h:x.suf r):(B7r k x).suf r:=by
 cases x<;>exact h
theorem B9w (g f inn:Nat) (m:Md) (r:LU8):(rGo g f inn m r).suf r:=by
 induction f generalizing inn m r with
 |zero=>trivial
 |succ f ih=>
  have d:=A0x r;have b:∀{c:UInt8} {q p:LU8},c::q<:+p->q<:+p:=λh=>(List.suffix_cons _ _).trans h
  have whole:∀{c:UInt8} {q p:LU8},c::q<:+p->c::q<:+p/\c::q≠[]:=λh=>⟨h,by simp⟩
  rw[rGo.eq_def];cases m with
  |val=>
   simp only;cases j:A0s r with
   |nil=>trivial
   |cons c q=>
    rw[j]at d;simp only
    repeat' split
    ·exact(E3f q).mono (b d)
    ·exact whole d
    ·exact C8p ((ih _ _ _).mono (b d))
    ·exact whole d
    ·exact C8p ((ih _ _ _).mono (b d))
    ·exact(D7u _ _).mono d
    ·exact(B9v _ _ _).mono d
    ·exact(B9v _ _ _).mono d
    ·exact(B9v _ _ _).mono d
    ·exact whole d
  |vals=>
   simp only;cases j:A0s r with
   |nil=>trivial
   |cons c q=>
    rw[j]at d;simp only;split
    ·exact b d
    ·exact(ih _ _ _).mono d
  |pairs=>
   simp only;cases j:A0s r with
   |nil=>trivial
   |cons c q=>
    rw[j]at d;simp only;split
    ·exact b d
    ·exact(ih _ _ _).mono d
  |valsGo n acc=>
   simp only;have i:=ih inn .val r;cases k:rGo g f inn .val r with
   |wrong e q=>rw[k]at i;exact i
   |ended l=>trivial
   |ok a its p=>
    rw[k]at i;have d:=(A0x p).trans i;simp only;cases j:A0s p with
    |nil=>trivial
    |cons c q=>
     rw[j]at d;simp only
     repeat' split
     ·exact b d
     ·exact(ih _ _ _).mono (b d)
     ·exact whole d
  |pairsGo n acc=>
   simp only;have i:=ih inn .pair r;cases k:rGo g f inn .pair r with
   |wrong e q=>rw[k]at i;exact i
   |ended l=>trivial
   |ok a its p=>
    rw[k]at i;have d:=(A0x p).trans i;simp only;cases j:A0s p with
    |nil=>trivial
    |cons c q=>
     rw[j]at d;simp only
     repeat' split
     ·exact b d
     ·exact(ih _ _ _).mono (b d)
     ·exact whole d
  |pair=>
   simp only;cases j:A0s r with
   |nil=>trivial
   |cons c q=>
    rw[j]at d;simp only;split
    ·exact whole d
    ·have i:=(B0a tr0 q).mono (b d)
     cases k:A1i tr0 q with
     |wrong e p=>rw[k]at i;exact i
     |ended=>trivial
     |ok s p=>
      rw[k]at i;have o:=(A0x p).trans i;simp only;cases v:A0s p with
      |nil=>trivial
      |cons c2 q2=>
       rw[v]at o;simp only;split
       ·exact whole o
       ·have t:=(ih inn .val q2).mono (b o)
        cases u:rGo g f inn .val q2 with
        |wrong e p2=>rw[u]at t;exact t
        |ended l=>trivial
        |ok a its p2=>rw[u]at t;exact t
def Z (d L st:Nat) (its:List It) (o:List Nat) (r:LU8):Ps:=⟨d,L-r.length,st,its,o,[],t0,tr0⟩
theorem B4s {s a:Ps} {c:UInt8} {r:LU8} (h:A1u s c=.ok a):A0p s (c::r)=A0p (A9y a) r:=by rw[A0p,h]
theorem A8p {s:Ps} {c:UInt8} {r:LU8} {n:Nat} (h:A1u s c=.error n):A0p s (c::r)=.error (n,s.came):=by rw[A0p,h]
theorem B0b {L:Nat} {c:UInt8} {r:LU8} (h:(c::r).length<=L):L-(c::r).length+1=L-r.length:=by
 simp only[List.length_cons]at h ⊢;omega
theorem D4t {d L st:Nat} {its:List It} {o:List Nat} {c:UInt8} {r:LU8} (h:(c::r).length<=L):A9y (Z d L st its o (c::r))=Z d L st its o r:=by
 show Ps.mk _ _ _ _ _ _ _ _=Ps.mk _ _ _ _ _ _ _ _
 congr 1;exact B0b h
theorem E8r {d L st st':Nat} {its its':List It} {o o':List Nat} {c:UInt8} {r:LU8} (a:(c::r).length<=L) (h:A1u (Z d L st its o (c::r)) c=.ok (Z d L st' its' o' (c::r))):
 A0p (Z d L st its o (c::r)) (c::r)=A0p (Z d L st' its' o' r) r:=by
 rw[B4s h,D4t a]
theorem B9x (d L st:Nat) (its:List It) (o:List Nat) (a:st<=5) (r:LU8) (b:r.length<=L):A0p (Z d L st its o r) r=A0p (Z d L st its o (A0s r)) (A0s r):=by
 induction r with
 |nil=>rfl
 |cons c r ih=>
  rw[A0s];split
  ·rename_i hb
   rw[E8r b (C8n c a hb)];exact ih (by simp only[List.length_cons]at b;omega)
  ·rfl
theorem C3d {d L st:Nat} {its:List It} {o:List Nat} {r:LU8} {c:UInt8} (a:st<=5) (b:B2x c=false):A1u (Z d L st its o r) c=A3f (Z d L st its o r) c:=by
 rw[B6d c a];unfold B3p;rw[if_neg (by rw[b];simp)]
def ZT (d L st:Nat) (its:List It) (o:List Nat) (t:Tr) (r:LU8):Ps:=⟨d,L-r.length,st,its,o,[],t0,t⟩
theorem B4t {d L st:Nat} {its:List It} {o:List Nat} {t:Tr} {r:LU8} {c:UInt8} (a:st=8\/st=9):A1u (ZT d L st its o t r) c=A5r (ZT d L st its o t r) c:=by
 unfold A1u;rw[if_neg (by show¬st=6;omega),if_neg (by show¬st=7;omega)];exact if_pos a
theorem F5c (d L st:Nat) (its:List It) (o:List Nat) (t:Tr) (a:st=8\/st=9) (r:LU8) (h:r.length<=L):
 match A1i t r with
 |.ok s p=>A0p (ZT d L st its o t r) r=A0p (if st=8 then Z d L 4 (its++[⟨4,0,0,s⟩]) o p else Z d L 5 (bump (its++[⟨4,0,0,s⟩]) o) o p) p
 |.wrong n p=>A0p (ZT d L st its o t r) r=.error (n,L-p.length)
 |.ended=>∃s1,A0p (ZT d L st its o t r) r=.ok s1/\A7t s1=([],7):=by
 induction r generalizing t with
 |nil=>
  refine⟨_,rfl,?_⟩;unfold A7t;rw[if_neg (by show¬(st=7/\_);omega),if_neg (by show¬(st=5/\_);omega)]
 |cons c r ih=>
  have j:∀e,A9y (ZT d L st its o e (c::r))=ZT d L st its o e r:=λe=>by
   show Ps.mk _ _ _ _ _ _ _ _=Ps.mk _ _ _ _ _ _ _ _
   congr 1;exact B0b h
  rw[A1i];cases i:A2q t c with
  |error n=>
   simp only;rw[A8p (by rw[B4t a,A5r,show(ZT d L st its o t (c::r)).tx=t from rfl,i])];rfl
  |ok p=>
   obtain⟨e,b⟩:=p;cases b with
   |false=>
    simp only;have f:A1u (ZT d L st its o t (c::r)) c=.ok (ZT d L st its o e (c::r)):=by rw[B4t a,A5r,show(ZT d L st its o t (c::r)).tx=t from rfl,i];rfl
    rw[B4s f,j];exact ih e (by simp only[List.length_cons]at h;omega)
   |true=>
    simp only;by_cases g:st=8
    ·rw[if_pos g]
     have f:A1u (ZT d L st its o t (c::r)) c=.ok (Z d L 4 (its++[⟨4,0,0,e.made⟩]) o (c::r)):=by
      rw[B4t a,A5r,show(ZT d L st its o t (c::r)).tx=t from rfl,i];simp only;rw[if_pos (show(ZT d L st its o t (c::r)).st=8 from g)];rfl
     rw[B4s f,D4t h]
    ·rw[if_neg g]
     have f:A1u (ZT d L st its o t (c::r)) c=.ok (Z d L 5 (bump (its++[⟨4,0,0,e.made⟩]) o) o (c::r)):=by
      rw[B4t a,A5r,show(ZT d L st its o t (c::r)).tx=t from rfl,i];simp only;rw[if_neg (show¬(ZT d L st its o t (c::r)).st=8 from g)];rfl
     rw[B4s f,D4t h]
def ZW (d L:Nat) (its:List It) (o:List Nat) (w r:LU8):Ps:=⟨d,L-r.length,6,its,o,w,t0,tr0⟩
theorem G1g (d L:Nat) (its:List It) (o:List Nat) (w:LU8) (j:w≠[]) (r:LU8) (e:r.length<=L):
 match A3a w r with
 |.ok _ p=>A0p (ZW d L its o w r) r=A0p (Z d L 5 (bump its o) o p) p
 |.wrong n p=>A0p (ZW d L its o w r) r=.error (n,L-p.length)
 |.ended=>∃s1,A0p (ZW d L its o w r) r=.ok s1/\A7t s1=([],7):=by
 induction w generalizing r with
 |nil=>exact absurd rfl j
 |cons x w ih=>
  cases r with
  |nil=>
   refine⟨_,rfl,?_⟩;unfold A7t;rw[if_neg (by rintro⟨h,_⟩;exact absurd h (show¬(6:Nat)=7 by decide)),if_neg (by rintro⟨h,_⟩;exact absurd h (show¬(6:Nat)=5 by decide))]
  |cons c r=>
   have g:A1u (ZW d L its o (x::w) (c::r)) c=A6t (ZW d L its o (x::w) (c::r)) c:=by
    unfold A1u;exact if_pos rfl
   rw[A3a];by_cases a:c≠x
   ·rw[if_pos a]
    rw[A8p (by rw[g,A6t];exact if_pos a)];rfl
   ·rw[if_neg a]
    by_cases f:w=[]
    ·subst f
     have b:A1u (ZW d L its o [x] (c::r)) c=.ok (Z d L 5 (bump its o) o (c::r)):=by
      rw[g,A6t]
      show(if c≠x then _ else _)=_
      rw[if_neg a,if_pos rfl];rfl
     show A0p _ _=A0p _ _
     rw[B4s b,D4t e]
    ·have b:A1u (ZW d L its o (x::w) (c::r)) c=.ok (ZW d L its o w (c::r)):=by
      rw[g,A6t]
      show(if c≠x then _ else _)=_
      rw[if_neg a,if_neg f];rfl
     have i:A9y (ZW d L its o w (c::r))=ZW d L its o w r:=by
      show Ps.mk _ _ _ _ _ _ _ _=Ps.mk _ _ _ _ _ _ _ _
      congr 1;exact B0b e
     rw[B4s b,i];exact ih f r (by simp only[List.length_cons]at e;omega)
def ZN (d L:Nat) (its:List It) (o:List Nat) (t:Tk) (r:LU8):Ps:=⟨d,L-r.length,7,its,o,[],t,tr0⟩
theorem C5s {d L:Nat} {its:List It} {o:List Nat} {t:Tk} {r:LU8} {c:UInt8}:A1u (ZN d L its o t r) c=A6j (ZN d L its o t r) c:=by
 unfold A1u;rw[if_neg (by show¬(7:Nat)=6;decide)];exact if_pos rfl
theorem F5d (d L:Nat) (its:List It) (o:List Nat) (t:Tk) (r:LU8) (h:(A3n t).2=0):A2f (ZN d L its o t r)=.ok (Z d L 5 (bump (its++[⟨3,0,(A3n t).1,[]⟩]) o) o r):=by
 unfold A2f;rw[if_neg (by show¬(A3n t).2≠0;omega)];rfl
theorem G1h (d L:Nat) (its:List It) (o:List Nat) (t:Tk) (r:LU8) (g:r.length<=L):
 match A5n t r with
 |.lost p=>A0p (ZN d L its o t r) r=.error (6,L-p.length)
 |.stop t' p=>if(A3n t').2≠0 then A0p (ZN d L its o t r) r=.error ((A3n t').2,L-p.length)else A0p (ZN d L its o t r) r=A0p (Z d L 5 (bump (its++[⟨3,0,(A3n t').1,[]⟩]) o) o p) p
 |.ended t'=>A0p (ZN d L its o t r) r=.ok (ZN d L its o t' []):=by
 induction r generalizing t with
 |nil=>rfl
 |cons c r ih=>
  rw[A5n];cases e:nxt t c with
  |none=>
   simp only;by_cases b:(A3n t).2≠0
   ·rw[if_pos b]
    have h:A2f (ZN d L its o t (c::r))=.error (A3n t).2:=by
     unfold A2f;exact if_pos b
    rw[A8p (by rw[C5s,A6j,show(ZN d L its o t (c::r)).tok=t from rfl,e,h])];rfl
   ·rw[if_neg b]
    have f:A1u (ZN d L its o t (c::r)) c=A1u (Z d L 5 (bump (its++[⟨3,0,(A3n t).1,[]⟩]) o) o (c::r)) c:=by
     rw[C5s,A6j,show(ZN d L its o t (c::r)).tok=t from rfl,e,F5d d L its o t (c::r) (Classical.not_not.1 b)];exact(B6d c (show(5:Nat)<=5 by omega)).symm
    rw[A0p,A0p,f];rfl
  |some t'=>
   simp only;by_cases a:A3b t'=true
   ·rw[if_pos a]
    rw[A8p (by rw[C5s,A6j,show(ZN d L its o t (c::r)).tok=t from rfl,e];exact if_pos a)];rfl
   ·rw[if_neg a]
    have f:A1u (ZN d L its o t (c::r)) c=.ok (ZN d L its o t' (c::r)):=by
     rw[C5s,A6j,show(ZN d L its o t (c::r)).tok=t from rfl,e]
     show(if A3b t'=true then _ else _)=_
     rw[if_neg a];rfl
    have i:A9y (ZN d L its o t' (c::r))=ZN d L its o t' r:=by
     show Ps.mk _ _ _ _ _ _ _ _=Ps.mk _ _ _ _ _ _ _ _
     congr 1;exact B0b g
    rw[B4s f,i];exact ih t' (by simp only[List.length_cons]at g;omega)
end Go.Proofs.YtmkkibaacclhnaaGreatDoor
