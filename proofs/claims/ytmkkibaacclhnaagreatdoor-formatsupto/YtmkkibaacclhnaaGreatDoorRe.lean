/-
  Part Re.
-/
import Derived.Test.YtmkkibaacclhnaaGreatDoorRc
namespace Go.Proofs.YtmkkibaacclhnaaGreatDoor
open Go.RowKit
def B7s (d L:Nat) (its:List It) (o:List Nat) (R:Except (Nat×Nat) Ps):LU8->Prop
 |[]=>R=.ok (Z d L 5 its o [])\/∃s1,R=.ok s1/\s1.st=7/\s1.opn=o/\A2f s1=.ok (Z d L 5 its o [])
 |c::p=>R=A0p (Z d L 5 its o (c::p)) (c::p)
theorem B7s.of {d L:Nat} {its:List It} {o:List Nat} {R:Except (Nat×Nat) Ps} {p:LU8} (h:R=A0p (Z d L 5 its o p) p):B7s d L its o R p:=by
 cases p with
 |nil=>exact .inl h
 |cons c p=>exact h
def F0m (l:Bool):Nat:=if l=true then 6 else 7
def F5e (d L:Nat) (its:List It) (o:List Nat) (R:Except (Nat×Nat) Ps):RV->Prop
 |.ok _ new p=>B7s d L (bump (its++new) o) o R p
 |.wrong n p=>R=.error (n,L-p.length)
 |.ended l=>∃s1,R=.ok s1/\A7t s1=([],F0m l)
def F0n (d L k:Nat) (A:List It) (o:List Nat) (R:Except (Nat×Nat) Ps):RV->Prop
 |.ok n new p=>R=A0p (Z d L 5 (bump (A++⟨k,n,0,[]⟩::new) o) o p) p
 |.wrong n p=>R=.error (n,L-p.length)
 |.ended l=>∃s1,R=.ok s1/\A7t s1=([],F0m l)
theorem E3g (A b:List It) (k n:Nat) (o:List Nat):bump (A++⟨k,n,0,[]⟩::b) (o++[A.length])=A++⟨k,n+1,0,[]⟩::b:=by
 rw[B4m]
 induction A with
 |nil=>rfl
 |cons a A ih=>
  simp only[List.cons_append,List.length_cons,List.modify_succ_cons];rw[ih]
theorem B6e {s:Ps} (h:s.opn≠[]):A7t s=([],7):=by
 unfold A7t;rw[if_neg (λhh=>h hh.2),if_neg (λhh=>h hh.2)]
theorem F0p (d L st:Nat) (A a:List It) (k n:Nat) (o:List Nat) (r:LU8):C8c (Z d L st (A++⟨k,n,0,[]⟩::a) (o++[A.length]) r)=decide (k=5):=by
 unfold C8c
 show(match (o++[A.length]).getLast? with|none=>false|some i=>match (A++(⟨k,n,0,[]⟩:It)::a)[i]? with|none=>false|some x=>decide (x.k=5))=_
 rw[List.getLast?_append];simp
theorem C3e (d L k n:Nat) (A b:List It) (o:List Nat) (e:UInt8) (l:(k=5/\e=93)\/(k=6/\e=125)) (R:Except (Nat×Nat) Ps) (p:LU8) (z:p.length<=L)
 (h:B7s d L (A++⟨k,n,0,[]⟩::b) (o++[A.length]) R p):
 match A0s p with
 |[]=>∃j,R=.ok j/\A7t j=([],7)
 |c::q=>if c=e then R=A0p (Z d L 5 (bump (A++⟨k,n,0,[]⟩::b) o) o q) q
  else if c=44 then R=A0p (Z d L (if k=5 then 0 else 2) (A++⟨k,n,0,[]⟩::b) (o++[A.length]) q) q else R=.error (3,L-(c::q).length):=by
 cases p with
 |nil=>
  show∃j,R=.ok j/\A7t j=([],7)
  rcases h with h|⟨j,w,C,x,_⟩
  ·exact⟨_,h,B6e (by show o++[A.length]≠[];simp)⟩
  ·exact⟨j,w,B6e (by rw[x];simp)⟩
 |cons c0 p0=>
  have h:R=A0p (Z d L 5 _ _ (c0::p0)) (c0::p0):=h;rw[B9x d L 5 _ _ (by omega) _ z]at h;have t:=(A0x (c0::p0)).length_le;cases v:A0s (c0::p0)with
  |nil=>
   rw[v]at h;exact⟨_,h,B6e (by show o++[A.length]≠[];simp)⟩
  |cons c q=>
   rw[v]at h t;have B:=A6k v;simp only
   have u:A1u (Z d L 5 (A++⟨k,n,0,[]⟩::b) (o++[A.length]) (c::q)) c=A4m (Z d L 5 (A++⟨k,n,0,[]⟩::b) (o++[A.length]) (c::q)) c:=by
    rw[C3d (by omega) B,A3f];rw[if_neg (by show¬((5=1/\_)\/(5=3/\_));omega),if_neg (by show¬(5=0\/5=1);omega),if_neg (by show¬((5=2\/5=3)/\_);omega),if_neg (by show¬(5=4/\_);omega)];exact if_pos ⟨rfl,by show o++[A.length]≠[];simp⟩
   have s:=F0p d L 5 A b k n o (c::q);by_cases i:c=e
   ·rw[if_pos i,h]
    refine E8r (by omega) ?_;rw[u,A4m,s];rw[if_neg (by rcases l with⟨_,f⟩|⟨_,f⟩<;>(rintro⟨_,a⟩;rw[i,f]at a;exact absurd a (by decide))),if_neg (by rcases l with⟨_,f⟩|⟨_,f⟩<;>(rintro⟨_,a⟩;rw[i,f]at a;exact absurd a (by decide)))]
    rw[if_pos (by
     rcases l with⟨g,f⟩|⟨y,f⟩
     ·exact .inl ⟨dcT g,i.trans f⟩
     ·exact .inr ⟨dcF (by omega),i.trans f⟩)]
    unfold A5d A2h
    show Except.ok (Ps.mk _ _ _ _ _ _ _ _)=Except.ok (Ps.mk _ _ _ _ _ _ _ _)
    simp[Z]
   ·rw[if_neg i]
    by_cases a:c=44
    ·rw[if_pos a,h]
     refine E8r (by omega) ?_;rw[u,A4m,s];by_cases g:k=5
     ·rw[if_pos ⟨dcT g,a⟩,if_pos g];rfl
     ·rw[if_neg (by rintro⟨h,_⟩;exact g (of_decide_eq_true h)),if_pos ⟨dcF g,a⟩,if_neg g];rfl
    ·rw[if_neg a,h]
     rw[A8p (n:=3) (by
      rw[u,A4m,s,if_neg (λh=>a h.2),if_neg (λh=>a h.2),if_neg];rintro(⟨m,r⟩|⟨m,r⟩)
      ·have:=of_decide_eq_true m
       rcases l with⟨_,f⟩|⟨y,_⟩
       ·exact i (r.trans f.symm)
       ·omega
      ·have:=of_decide_eq_false m
       rcases l with⟨g,_⟩|⟨_,f⟩
       ·omega
       ·exact i (r.trans f.symm))]
     rfl
theorem B4u {s:Ps} (b:s.st≠7) (a:s.st≠5):A7t s=([],7):=by
 unfold A7t;rw[if_neg (λhh=>b hh.1),if_neg (λhh=>a hh.1)]
theorem E3h (t:Tk) (c:UInt8) (k:Nat):(A4q t c k).st=k:=by
 unfold A4q
 repeat' split
 all_goals simp_all
theorem E3i {c:UInt8} (h:c=45\/isD c=true):∃t,nxt t0 c=some t/\A3b t=false:=by
 have d:beh 0 c≠0/\beh 0 c<=3:=by
  unfold beh;rcases h with rfl|h
  ·simp
  ·by_cases a:c=45
   ·simp[a]
   ·by_cases b:c=48
    ·simp[b]
    ·simp[a,b,h]
 refine⟨A4q t0 c (beh 0 c),?_,?_⟩
 ·unfold nxt
  rw[show t0.st=0 from rfl,if_neg d.1]
 ·unfold A3b
  rw[E3h,dcF (by omega)];rfl
theorem D7v {c:UInt8} (h:¬(c=45\/isD c=true)):nxt t0 c=none:=by
 have f:beh 0 c=0:=by
  have b:c≠45:=λe=>h (.inl e)
  have a:¬isD c=true:=λe=>h (.inr e)
  have d:c≠48:=λe=>a (by rw[e];decide)
  unfold beh;simp[b,a,d]
 unfold nxt;rw[show t0.st=0 from rfl,if_pos f]
theorem E3j {c x:UInt8} (h:c=45\/isD c=true) (a:¬(x=45\/isD x=true)):c≠x:=λe=>a (e▸h)
theorem D7w {d L st:Nat} {its:List It} {o:List Nat} {c:UInt8} {q:LU8} (g:B2x c=false) (b:st=0\/(st=1/\c≠93)):A1u (Z d L st its o (c::q)) c=A3c (Z d L st its o (c::q)) c:=by
 rw[C3d (by omega) g,A3f]
 have a:¬((st=1/\c=93)\/(st=3/\c=125)):=by
  rintro(⟨f,e⟩|⟨f,e⟩)
  ·rcases b with h|⟨_,h⟩
   ·omega
   ·exact h e
  ·omega
 rw[if_neg (show¬(((Z d L st its o (c::q)).st=1/\c=93)\/((Z d L st its o (c::q)).st=3/\c=125))from a)];exact if_pos (show st=0\/st=1 by omega)
theorem E3k (d L:Nat) (its:List It) (o:List Nat) (q:LU8) (b:q.length<=L):F5e d L its o (A0p (Z d L 9 its o q) q) (B2y q):=by
 have h:=F5c d L 9 its o tr0 (.inr rfl) q b;unfold B2y;cases a:A1i tr0 q with
 |ok s p=>rw[a]at h;exact B7s.of h
 |wrong n p=>rw[a]at h;exact h
 |ended=>rw[a]at h;exact h
theorem B9y (d L k:Nat) (its:List It) (o:List Nat) (c:UInt8) (w q:LU8) (m:w≠[]) (f:(c::q).length<=L) (st:Nat)
 (l:A1u (Z d L st its o (c::q)) c=.ok (ZW d L (its++[⟨k,0,0,[]⟩]) o w (c::q))):F5e d L its o (A0p (Z d L st its o (c::q)) (c::q)) (A8n k (c::w) (c::q)):=by
 have j:A9y (ZW d L (its++[⟨k,0,0,[]⟩]) o w (c::q))=ZW d L (its++[⟨k,0,0,[]⟩]) o w q:=by
  show Ps.mk _ _ _ _ _ _ _ _=Ps.mk _ _ _ _ _ _ _ _
  congr 1;exact B0b f
 have h:=G1g d L (its++[⟨k,0,0,[]⟩]) o w m q (by simp only[List.length_cons]at f;omega);have e:A0p (Z d L st its o (c::q)) (c::q)=A0p (ZW d L (its++[⟨k,0,0,[]⟩]) o w q) q:=by rw[B4s l,j]
 unfold A8n;rw[show A3a (c::w) (c::q)=A3a w q by rw[A3a,if_neg (by simp)]];cases b:A3a w q with
 |ok a p=>rw[b]at h;exact B7s.of (e.trans h)
 |wrong n p=>rw[b]at h;exact e.trans h
 |ended=>
  rw[b]at h;obtain⟨r,g,i⟩:=h;exact⟨r,e.trans g,i⟩
theorem F0q (d L inn:Nat) (its:List It) (o:List Nat) (c:UInt8) (q:LU8) (j:(c::q).length<=L) (k:o.length=inn) (st:Nat) (t:Tk) (r:nxt t0 c=some t) (m:A3b t=false)
 (s:A1u (Z d L st its o (c::q)) c=.ok (ZN d L its o t (c::q))):F5e d L its o (A0p (Z d L st its o (c::q)) (c::q)) (A4v inn (c::q)):=by
 have n:A9y (ZN d L its o t (c::q))=ZN d L its o t q:=by
  show Ps.mk _ _ _ _ _ _ _ _=Ps.mk _ _ _ _ _ _ _ _
  congr 1;exact B0b j
 have h:=G1h d L its o t q (by simp only[List.length_cons]at j;omega);have e:A0p (Z d L st its o (c::q)) (c::q)=A0p (ZN d L its o t q) q:=by rw[B4s s,n]
 unfold A4v;rw[show A5n t0 (c::q)=A5n t q by rw[A5n,r];simp[m]];cases i:A5n t q with
 |lost p=>rw[i]at h;exact e.trans h
 |stop t' p=>
  rw[i]at h;simp only at h ⊢;by_cases a:(A3n t').2≠0
  ·rw[if_pos a]at h ⊢
   exact e.trans h
  ·rw[if_neg a]at h ⊢
   exact B7s.of (e.trans h)
 |ended t'=>
  rw[i]at h;simp only at h ⊢;by_cases a:(A3n t').2=0
  ·rw[if_pos a]
   exact .inr ⟨_,e.trans h,rfl,rfl,F5d d L its o t' [] a⟩
  ·rw[if_neg a]
   refine⟨_,e.trans h,?_⟩;unfold A7t;by_cases b:o=[]
   ·rw[if_pos ⟨rfl,b⟩]
    have l:A2f (ZN d L its o t' [])=.error (A3n t').2:=by
     unfold A2f;exact if_pos a
    rw[l];have g:inn=0:=by rw[<-k,b];rfl
    simp only;by_cases f:(A3n t').2=6
    ·rw[if_pos f,dcT ⟨f,g⟩];rfl
    ·rw[if_neg f,dcF (λhh=>f hh.1)];rfl
   ·rw[if_neg (λhh=>b hh.2),if_neg (λhh=>b hh.2),dcF (by
     rintro⟨_,g⟩;rw[<-k]at g
     exact b (List.eq_nil_of_length_eq_zero g))]
    rfl
theorem C8q {d L k:Nat} {its:List It} {o:List Nat} {R:Except (Nat×Nat) Ps} {x:RV} (h:F0n d L k its o R x):F5e d L its o R (B7r k x):=by
 cases x with
 |ok n new p=>exact B7s.of h
 |wrong n p=>exact h
 |ended l=>exact h
structure Ho (d L f:Nat):Prop where
 val:∀inn r its o st,A5g .val r<=f->r.length<=L->o.length=inn->(st=0\/(st=1/\∀q,A0s r≠93::q))->F5e d L its o (A0p (Z d L st its o r) r) (rGo d f inn .val r)
 vals:∀inn r A o,A5g .vals r<=f->r.length<=L->o.length+1=inn->F0n d L 5 A o (A0p (Z d L 1 (A++[⟨5,0,0,[]⟩]) (o++[A.length]) r) r) (rGo d f inn .vals r)
 valsGo:∀inn r A o n acc st,A5g (.valsGo (n+1) acc) r<=f->r.length<=L->o.length+1=inn->(st=0\/(st=1/\∀q,A0s r≠93::q))->F0n d L 5 A o (A0p (Z d L st (A++⟨5,n,0,[]⟩::acc) (o++[A.length]) r) r) (rGo d f inn (.valsGo (n+1) acc) r)
 pairs:∀inn r A o,A5g .pairs r<=f->r.length<=L->o.length+1=inn->F0n d L 6 A o (A0p (Z d L 3 (A++[⟨6,0,0,[]⟩]) (o++[A.length]) r) r) (rGo d f inn .pairs r)
 pairsGo:∀inn r A o n acc st,A5g (.pairsGo (n+1) acc) r<=f->r.length<=L->o.length+1=inn->(st=2\/(st=3/\∀q,A0s r≠125::q))->F0n d L 6 A o (A0p (Z d L st (A++⟨6,n,0,[]⟩::acc) (o++[A.length]) r) r) (rGo d f inn (.pairsGo (n+1) acc) r)
 pair:∀inn r its o st,A5g .pair r<=f->r.length<=L->o.length=inn->(st=2\/(st=3/\∀q,A0s r≠125::q))->F5e d L its o (A0p (Z d L st its o r) r) (rGo d f inn .pair r)
theorem G1i {d L f:Nat} (h:Ho d L f) (inn:Nat) (r:LU8) (its:List It) (o:List Nat) (st:Nat) (z:A5g .val r<=f+1) (C:r.length<=L) (F:o.length=inn) (x:st=0\/(st=1/\∀q,A0s r≠93::q)):
 F5e d L its o (A0p (Z d L st its o r) r) (rGo d (f+1) inn .val r):=by
 have A:=(A0x r).length_le;rw[B9x d L st its o (by omega) r C,rGo.eq_def];simp only;cases y:A0s r with
 |nil=>exact⟨_,rfl,B4u (by show st≠7;omega) (by show st≠5;omega)⟩
 |cons c q=>
  rw[y]at A;have g:(c::q).length<=L:=by omega
  have G:q.length+1<=r.length:=A;have D:=A6k y
  have w:st=0\/(st=1/\c≠93):=by
   rcases x with h|⟨u,B⟩
   ·exact .inl h
   ·exact .inr ⟨u,λe=>B q (by rw[y,e])⟩
  have s:=D7w (d:=d) (L:=L) (its:=its) (o:=o) (q:=q) D w;unfold A5g at z;simp only at z ⊢;by_cases l:c=34
  ·rw[if_pos l]
   subst l
   have u:A1u (Z d L st its o (34::q)) 34=.ok (Z d L 9 its o (34::q)):=by
    rw[s,A3c,if_neg (by decide),if_neg (by decide),if_neg (by decide),if_pos rfl];rfl
   rw[E8r g u];exact E3k d L its o q (by omega)
  rw[if_neg l];by_cases m:c=91
  ·rw[if_pos m]
   subst m
   have p:A1u (Z d L st its o (91::q)) 91=A6b (Z d L st its o (91::q)) 5 1:=by
    rw[s,A3c,if_neg (by decide),if_neg (by decide),if_neg (by decide),if_neg (by decide),if_pos rfl]
   by_cases v:inn=d
   ·rw[if_pos v]
    show A0p _ _=_
    rw[A8p (n:=4) (by rw[p,A6b];exact if_pos (show o.length=d by omega))];rfl
   ·rw[if_neg v]
    have u:A1u (Z d L st its o (91::q)) 91=.ok (Z d L 1 (its++[⟨5,0,0,[]⟩]) (o++[its.length]) (91::q)):=by
     rw[p,A6b];exact if_neg (show¬o.length=d by omega)
    rw[E8r g u];exact C8q (h.vals (inn+1) q its o (by unfold A5g;simp only;omega) (by omega) (by omega))
  rw[if_neg m];by_cases b:c=123
  ·rw[if_pos b]
   subst b
   have p:A1u (Z d L st its o (123::q)) 123=A6b (Z d L st its o (123::q)) 6 3:=by
    rw[s,A3c,if_neg (by decide),if_neg (by decide),if_neg (by decide),if_neg (by decide),if_neg (by decide),if_pos rfl]
   by_cases v:inn=d
   ·rw[if_pos v]
    show A0p _ _=_
    rw[A8p (n:=4) (by rw[p,A6b];exact if_pos (show o.length=d by omega))];rfl
   ·rw[if_neg v]
    have u:A1u (Z d L st its o (123::q)) 123=.ok (Z d L 3 (its++[⟨6,0,0,[]⟩]) (o++[its.length]) (123::q)):=by
     rw[p,A6b];exact if_neg (show¬o.length=d by omega)
    rw[E8r g u];exact C8q (h.pairs (inn+1) q its o (by unfold A5g;simp only;omega) (by omega) (by omega))
  rw[if_neg b];by_cases a:c=45\/isD c=true
  ·rw[if_pos a]
   obtain⟨t,p,E⟩:=E3i a;refine F0q d L inn its o c q g F st t p E ?_;rw[s,A3c,if_neg (E3j a (by decide)),if_neg (E3j a (by decide)),if_neg (E3j a (by decide)),if_neg l,if_neg m,if_neg b]
   show(match nxt t0 c with|none=>_|some t=>_)=_
   rw[p];rfl
  rw[if_neg a];by_cases j:c=110
  ·rw[if_pos j]
   subst j;exact B9y d L 0 its o 110 [117,108,108] q (by simp) g st (by rw[s,A3c,if_pos rfl];rfl)
  rw[if_neg j];by_cases i:c=102
  ·rw[if_pos i]
   subst i;exact B9y d L 1 its o 102 [97,108,115,101] q (by simp) g st (by rw[s,A3c,if_neg (by decide),if_pos rfl];rfl)
  rw[if_neg i];by_cases k:c=116
  ·rw[if_pos k]
   subst k;exact B9y d L 2 its o 116 [114,117,101] q (by simp) g st (by rw[s,A3c,if_neg (by decide),if_neg (by decide),if_pos rfl];rfl)
  rw[if_neg k]
  show A0p _ _=_
  rw[A8p (n:=3) (by
   rw[s,A3c,if_neg j,if_neg i,if_neg k,if_neg l,if_neg m,if_neg b]
   show(match nxt t0 c with|none=>_|some t=>_)=_
   rw[D7v a])]
  rfl
theorem C3f {d L k st:Nat} {A:List It} {o:List Nat} {c:UInt8} {q:LU8} (a:(st=1/\c=93)\/(st=3/\c=125)):
 A1u (Z d L st (A++[⟨k,0,0,[]⟩]) (o++[A.length]) (c::q)) c=.ok (Z d L 5 (bump (A++[⟨k,0,0,[]⟩]) o) o (c::q)):=by
 have b:B2x c=false:=by rcases a with⟨_,rfl⟩|⟨_,rfl⟩<;>decide
 rw[C3d (by omega) b,A3f];rw[if_pos (show((Z d L st (A++[⟨k,0,0,[]⟩]) (o++[A.length]) (c::q)).st=1/\c=93)\/((Z d L st (A++[⟨k,0,0,[]⟩]) (o++[A.length]) (c::q)).st=3/\c=125)from a)];unfold A5d A2h
 show Except.ok (Ps.mk _ _ _ _ _ _ _ _)=Except.ok (Ps.mk _ _ _ _ _ _ _ _)
 simp[Z]
theorem F7p {d L f:Nat} (h:Ho d L f) (inn:Nat) (r:LU8) (A:List It) (o:List Nat) (b:A5g .vals r<=f+1) (j:r.length<=L) (l:o.length+1=inn):
 F0n d L 5 A o (A0p (Z d L 1 (A++[⟨5,0,0,[]⟩]) (o++[A.length]) r) r) (rGo d (f+1) inn .vals r):=by
 have g:=(A0x r).length_le;rw[B9x d L 1 _ _ (by omega) r j,rGo.eq_def];simp only;cases i:A0s r with
 |nil=>exact⟨_,rfl,B4u (by show(1:Nat)≠7;decide) (by show(1:Nat)≠5;decide)⟩
 |cons c q=>
  rw[i]at g;have m:q.length+1<=r.length:=g;unfold A5g at b;simp only at b ⊢;by_cases a:c=93
  ·rw[if_pos a]
   exact E8r (by omega) (C3f (.inl ⟨rfl,a⟩))
  ·rw[if_neg a]
   have k:A0s (c::q)=c::q:=by rw[A0s,A6k i];rfl
   exact h.valsGo inn (c::q) A o 0 [] 1 (by unfold A5g;simp only[List.length_cons];omega) (by omega) l (.inr ⟨rfl,λq' e=>by rw[k]at e;cases e;exact a rfl⟩)
theorem F0r {d L f:Nat} (h:Ho d L f) (inn:Nat) (r:LU8) (A:List It) (o:List Nat) (b:A5g .pairs r<=f+1) (j:r.length<=L) (l:o.length+1=inn):
 F0n d L 6 A o (A0p (Z d L 3 (A++[⟨6,0,0,[]⟩]) (o++[A.length]) r) r) (rGo d (f+1) inn .pairs r):=by
 have g:=(A0x r).length_le;rw[B9x d L 3 _ _ (by omega) r j,rGo.eq_def];simp only;cases i:A0s r with
 |nil=>exact⟨_,rfl,B4u (by show(3:Nat)≠7;decide) (by show(3:Nat)≠5;decide)⟩
 |cons c q=>
  rw[i]at g;have m:q.length+1<=r.length:=g;unfold A5g at b;simp only at b ⊢;by_cases a:c=125
  ·rw[if_pos a]
   exact E8r (by omega) (C3f (.inr ⟨rfl,a⟩))
  ·rw[if_neg a]
   have k:A0s (c::q)=c::q:=by rw[A0s,A6k i];rfl
   exact h.pairsGo inn (c::q) A o 0 [] 3 (by unfold A5g;simp only[List.length_cons];omega) (by omega) l (.inr ⟨rfl,λq' e=>by rw[k]at e;cases e;exact a rfl⟩)
theorem E3m {d L f:Nat} (h:Ho d L f) (inn:Nat) (r:LU8) (A:List It) (o:List Nat) (n:Nat) (b:List It) (st:Nat) (u:A5g (.valsGo (n+1) b) r<=f+1) (x:r.length<=L) (y:o.length+1=inn) (m:st=0\/(st=1/\∀q,A0s r≠93::q)):
 F0n d L 5 A o (A0p (Z d L st (A++⟨5,n,0,[]⟩::b) (o++[A.length]) r) r) (rGo d (f+1) inn (.valsGo (n+1) b) r):=by
 unfold A5g at u;simp only at u;have i:=h.val inn r (A++⟨5,n,0,[]⟩::b) (o++[A.length]) st (by unfold A5g;simp only;omega) x (by simp;omega) m;have j:=B9w d f inn .val r;rw[rGo.eq_def];simp only;cases s:rGo d f inn .val r with
 |wrong e q=>rw[s]at i;exact i
 |ended l=>rw[s]at i;exact i
 |ok a its p=>
  rw[s]at i j;have z:=List.IsSuffix.length_le j;have i:B7s d L _ _ _ p:=i;rw[List.append_assoc,List.cons_append,E3g]at i;have g:=C3e d L 5 (n+1) A (b++its) o 93 (.inl ⟨rfl,rfl⟩) _ p (by omega) i;have v:=(A0x p).length_le;simp only;cases w:A0s p with
  |nil=>rw[w]at g;exact g
  |cons c q=>
   rw[w]at g v;simp only at g ⊢;by_cases t:c=93
   ·rw[if_pos t]at g ⊢
    exact g
   ·rw[if_neg t]at g ⊢
    by_cases k:c=44
    ·rw[if_pos k]at g ⊢
     rw[g];have B:q.length+1<=p.length:=v;exact h.valsGo inn q A o (n+1) (b++its) 0 (by unfold A5g;simp only;omega) (by omega) y (.inl rfl)
    ·rw[if_neg k]at g ⊢
     exact g
theorem D7x {d L f:Nat} (h:Ho d L f) (inn:Nat) (r:LU8) (A:List It) (o:List Nat) (n:Nat) (b:List It) (st:Nat) (u:A5g (.pairsGo (n+1) b) r<=f+1) (x:r.length<=L) (y:o.length+1=inn) (m:st=2\/(st=3/\∀q,A0s r≠125::q)):
 F0n d L 6 A o (A0p (Z d L st (A++⟨6,n,0,[]⟩::b) (o++[A.length]) r) r) (rGo d (f+1) inn (.pairsGo (n+1) b) r):=by
 unfold A5g at u;simp only at u;have i:=h.pair inn r (A++⟨6,n,0,[]⟩::b) (o++[A.length]) st (by unfold A5g;simp only;omega) x (by simp;omega) m;have j:=B9w d f inn .pair r;rw[rGo.eq_def];simp only;cases s:rGo d f inn .pair r with
 |wrong e q=>rw[s]at i;exact i
 |ended l=>rw[s]at i;exact i
 |ok a its p=>
  rw[s]at i j;have z:=List.IsSuffix.length_le j;have i:B7s d L _ _ _ p:=i;rw[List.append_assoc,List.cons_append,E3g]at i;have g:=C3e d L 6 (n+1) A (b++its) o 125 (.inr ⟨rfl,rfl⟩) _ p (by omega) i;have v:=(A0x p).length_le;simp only;cases w:A0s p with
  |nil=>rw[w]at g;exact g
  |cons c q=>
   rw[w]at g v;simp only at g ⊢;by_cases t:c=125
   ·rw[if_pos t]at g ⊢
    exact g
   ·rw[if_neg t]at g ⊢
    by_cases k:c=44
    ·rw[if_pos k]at g ⊢
     rw[g];have B:q.length+1<=p.length:=v;exact h.pairsGo inn q A o (n+1) (b++its) 2 (by unfold A5g;simp only;omega) (by omega) y (.inl rfl)
    ·rw[if_neg k]at g ⊢
     exact g
theorem F7q {d L f:Nat} (h:Ho d L f) (inn:Nat) (r:LU8) (its:List It) (o:List Nat) (st:Nat) (C:A5g .pair r<=f+1) (H:r.length<=L) (J:o.length=inn) (y:st=2\/(st=3/\∀q,A0s r≠125::q)):
 F5e d L its o (A0p (Z d L st its o r) r) (rGo d (f+1) inn .pair r):=by
 have D:=(A0x r).length_le;unfold A5g at C;simp only at C;rw[B9x d L st its o (by omega) r H,rGo.eq_def];simp only;cases z:A0s r with
 |nil=>exact⟨_,rfl,B4u (by show st≠7;omega) (by show st≠5;omega)⟩
 |cons c q=>
  rw[z]at D;have N:q.length+1<=r.length:=D;have u:(c::q).length<=L:=by omega
  have I:=A6k z
  have x:¬((st=1/\c=93)\/(st=3/\c=125)):=by
   rintro(⟨G,B⟩|⟨G,B⟩)
   ·omega
   ·rcases y with h|⟨_,h⟩
    ·omega
    ·exact h q (by rw[z,B])
  have E:A1u (Z d L st its o (c::q)) c=if c=34 then .ok (C1m (Z d L st its o (c::q)) 8)else .error 3:=by
   rw[C3d (by omega) I,A3f];rw[if_neg (show¬(((Z d L st its o (c::q)).st=1/\c=93)\/((Z d L st its o (c::q)).st=3/\c=125))from x),if_neg (by show¬(st=0\/st=1);omega)];by_cases g:c=34
   ·rw[if_pos g]
    exact if_pos ⟨show st=2\/st=3 by omega,g⟩
   ·rw[if_neg g,if_neg (λhh=>g hh.2),if_neg (by show¬(st=4/\_);omega),if_neg (by show¬(st=5/\_);omega)]
  simp only;by_cases g:c=34
  ·subst g
   rw[if_neg (by simp),E8r (st':=8) (its':=its) (o':=o) u (by rw[E,if_pos rfl];rfl)];have k:=F5c d L 8 its o tr0 (.inl rfl) q (by omega);have j:=B0a tr0 q;cases A:A1i tr0 q with
   |wrong e p=>rw[A]at k;exact k
   |ended=>rw[A]at k;exact k
   |ok s p=>
    rw[A]at k j;have K:=List.IsSuffix.length_le j;have k:A0p (Z d L 8 its o q) q=A0p (Z d L 4 (its++[⟨4,0,0,s⟩]) o p) p:=k;rw[k,B9x d L 4 _ _ (by omega) p (by omega)];have m:=(A0x p).length_le;simp only;cases F:A0s p with
    |nil=>exact⟨_,rfl,B4u (by show(4:Nat)≠7;decide) (by show(4:Nat)≠5;decide)⟩
    |cons c2 q2=>
     rw[F]at m;have M:q2.length+1<=p.length:=m;have v:=A6k F
     have t:A1u (Z d L 4 (its++[⟨4,0,0,s⟩]) o (c2::q2)) c2=if c2=58 then .ok (C1m (Z d L 4 (its++[⟨4,0,0,s⟩]) o (c2::q2)) 0)else .error 3:=by
      rw[C3d (by omega) v,A3f];rw[if_neg (by show¬((4=1/\_)\/(4=3/\_));omega),if_neg (by show¬(4=0\/4=1);omega),if_neg (by show¬((4=2\/4=3)/\_);omega)];by_cases b:c2=58
      ·rw[if_pos b]
       exact if_pos ⟨rfl,b⟩
      ·rw[if_neg b,if_neg (λhh=>b hh.2),if_neg (by show¬(4=5/\_);omega)]
     simp only;by_cases b:c2=58
     ·rw[if_neg (by simp[b]),E8r (st':=0) (its':=its++[⟨4,0,0,s⟩]) (o':=o) (by omega) (by rw[t,if_pos b];rfl)]
      have i:=h.val inn q2 (its++[⟨4,0,0,s⟩]) o 0 (by unfold A5g;simp only;omega) (by omega) J (.inl rfl);cases w:rGo d f inn .val q2 with
      |wrong e p2=>rw[w]at i;exact i
      |ended l=>rw[w]at i;exact i
      |ok a new p2=>
       rw[w]at i;have i:B7s d L (bump (its++[⟨4,0,0,s⟩]++new) o) o _ p2:=i;rw[List.append_assoc]at i;exact i
     ·rw[if_pos b]
      show A0p _ _=_
      rw[A8p (n:=3) (by rw[t,if_neg b])];rfl
  ·rw[if_pos g]
   show A0p _ _=_
   rw[A8p (n:=3) (by rw[E,if_neg g])];rfl
theorem G1j (d L f:Nat):Ho d L f:=by
 induction f with
 |zero=>
  have a:∀m r,¬A5g m r<=0:=by
   intro m r;unfold A5g;cases m<;>simp
  exact⟨λ_ _ _ _ _ h=>absurd h (a _ _),λ_ _ _ _ h=>absurd h (a _ _),λ_ _ _ _ _ _ _ h=>absurd h (a _ _),λ_ _ _ _ h=>absurd h (a _ _),λ_ _ _ _ _ _ _ h=>absurd h (a _ _),λ_ _ _ _ _ h=>absurd h (a _ _)⟩
 |succ f ih=>exact⟨G1i ih,F7p ih,E3m ih,F0r ih,D7x ih,F7q ih⟩
noncomputable def B1g (d:Nat) (l:LU8):RV:=match rGo d (4*l.length+1) 0 .val l with
 |.wrong n p=>.wrong n p
 |.ended late=>.ended late
 |.ok a its p=>match A0s p with
  |[]=>.ok a its []
  |c::q=>.wrong 3 (c::q)
theorem F7r (d:Nat) (l:LU8):Z d l.length 0 [] [] l=ps0 d:=by
 unfold Z ps0;rw[Nat.sub_self]
theorem B0w (d:Nat) (l:LU8):match B1g d l with
 |.ok _ its _=>D2d (A0p (ps0 d) l)=0/\A5m (A0p (ps0 d) l)=(its,0,l.length)
 |.wrong n p=>A0p (ps0 d) l=.error (n,l.length-p.length)
 |.ended late=>D2d (A0p (ps0 d) l)=0/\A5m (A0p (ps0 d) l)=([],F0m late,l.length):=by
 have h:=(G1j d l.length (4*l.length+1)).val 0 l [] [] 0 (Nat.le_refl _) (Nat.le_refl _) rfl (.inl rfl);rw[F7r]at h;have f:=B9w d (4*l.length+1) 0 .val l;unfold B1g
 have b:∀s its e,A0p (ps0 d) l=.ok s->A7t s=(its,e)->D2d (A0p (ps0 d) l)=0/\A5m (A0p (ps0 d) l)=(its,e,l.length):=by
  intro s its e hr x;have w:=C3c hr;rw[hr];refine⟨rfl,?_⟩
  show((A7t s).1,(A7t s).2,s.came)=_
  rw[x,w]
  show(its,e,0+l.length)=_
  rw[Nat.zero_add]
 have r:∀its L,A7t (Z d L 5 its [] [])=(its,0):=by
  intro its L;unfold A7t;rw[if_neg (by rintro⟨h,_⟩;exact absurd h (show¬(5:Nat)=7 by decide))];exact if_pos ⟨rfl,rfl⟩
 cases m:rGo d (4*l.length+1) 0 .val l with
 |wrong n p=>rw[m]at h;exact h
 |ended late=>
  rw[m]at h;obtain⟨o,g,i⟩:=h;exact b o [] _ g i
 |ok a its p=>
  rw[m]at h f;have j:=List.IsSuffix.length_le f;have h:B7s d l.length its [] (A0p (ps0 d) l) p:=h;simp only;cases p with
  |nil=>
   show D2d _=0/\_
   rcases h with h|⟨o,g,i,t,u⟩
   ·exact b _ its 0 h (r its _)
   ·refine b o its 0 g ?_
    unfold A7t;rw[if_pos ⟨i,t⟩,u];rfl
  |cons c0 p0=>
   have h:A0p (ps0 d) l=A0p (Z d l.length 5 its [] (c0::p0)) (c0::p0):=h;rw[B9x d l.length 5 its [] (by omega) _ j]at h;have y:=(A0x (c0::p0)).length_le;cases k:A0s (c0::p0)with
   |nil=>
    rw[k]at h;exact b _ its 0 h (r its _)
   |cons c q=>
    rw[k]at h y;have v:=A6k k;simp only
    rw[h,A8p (n:=3) (by
     rw[C3d (by omega) v,A3f];rw[if_neg (by show¬((5=1/\_)\/(5=3/\_));omega),if_neg (by show¬(5=0\/5=1);omega),if_neg (by show¬((5=2\/5=3)/\_);omega),if_neg (by show¬(5=4/\_);omega)]
     exact if_neg (λhh=>hh.2 rfl))]
    rfl
end Go.Proofs.YtmkkibaacclhnaaGreatDoor
