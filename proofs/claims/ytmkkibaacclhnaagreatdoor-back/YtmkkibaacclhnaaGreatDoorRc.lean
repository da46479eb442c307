/-
  A step of the walk, the part named Rc. No theorem of the row.
-/
import Derived.Test.YtmkkibaacclhnaaGreatDoorPt
namespace Go.Proofs.YtmkkibaacclhnaaGreatDoor
open Go.RowKit
theorem psNest_came {s s':Ps} {a b:Nat} (e:psNest s a b=.ok s'):s'.came=s.came:=by
 unfold psNest at e;split at e
 ·cases e
 ·cases e;rfl
theorem psNest_err {s:Ps} {a b n:Nat} (e:psNest s a b=.error n):n≠0:=by
 unfold psNest at e;split at e
 ·cases e;omega
 ·cases e
theorem psBegin_came {s s':Ps} {c:UInt8} (e:psBegin s c=.ok s'):s'.came=s.came:=by
 unfold psBegin at e;split at e
 ·cases e;rfl
 split at e
 ·cases e;rfl
 split at e
 ·cases e;rfl
 split at e
 ·cases e;rfl
 split at e
 ·exact psNest_came e
 split at e
 ·exact psNest_came e
 split at e
 ·cases e
 ·cases e;rfl
theorem psBegin_err {s:Ps} {c:UInt8} {n:Nat} (e:psBegin s c=.error n):n≠0:=by
 unfold psBegin at e;split at e
 ·cases e
 split at e
 ·cases e
 split at e
 ·cases e
 split at e
 ·cases e
 split at e
 ·exact psNest_err e
 split at e
 ·exact psNest_err e
 split at e
 ·cases e;omega
 ·cases e
theorem psOut_came {s s':Ps} {c:UInt8} (e:psOut s c=.ok s'):s'.came=s.came:=by
 unfold psOut at e;split at e
 ·cases e;rfl
 unfold psBetween at e;split at e
 ·cases e;rfl
 split at e
 ·exact psBegin_came e
 split at e
 ·cases e;rfl
 split at e
 ·cases e;rfl
 split at e
 ·unfold psBehind at e
  split at e
  ·cases e;rfl
  split at e
  ·cases e;rfl
  split at e
  ·cases e;rfl
  ·cases e
 ·cases e
theorem psOut_err {s:Ps} {c:UInt8} {n:Nat} (e:psOut s c=.error n):n≠0:=by
 unfold psOut at e;split at e
 ·cases e
 unfold psBetween at e;split at e
 ·cases e
 split at e
 ·exact psBegin_err e
 split at e
 ·cases e
 split at e
 ·cases e
 split at e
 ·unfold psBehind at e
  split at e
  ·cases e
  split at e
  ·cases e
  split at e
  ·cases e
  ·cases e;omega
 ·cases e;omega
theorem map_err {α β:Type} {x:Except Nat α} {f:α→β} {n:Nat} (e:x.map f=.error n):x=.error n:=by
 cases x with
 |error m=>exact congrArg _ (by simpa[Except.map]using e)
 |ok a=>cases e
theorem trNext_errN {t:Tr} {c:UInt8} {n:Nat} (e:trNext t c=.error n):n≠0:=by
 unfold trNext at e;split at e
 ·have e:=map_err e
  unfold trGo at e;split at e
  ·cases e;omega
  ·cases e
 split at e
 ·have e:=map_err e
  unfold trEsc at e;split at e
  ·cases e
  split at e
  ·cases e;omega
  split at e
  ·cases e;omega
  ·cases e
 split at e
 ·have e:=map_err e
  unfold trDig at e;split at e
  ·cases e;omega
  split at e
  ·split at e
   ·cases e;omega
   ·cases e
  split at e
  ·split at e
   ·cases e;omega
   ·cases e
  split at e
  ·cases e
  ·cases e
 unfold trChar at e;split at e
 ·cases e
 split at e
 ·cases e;omega
 split at e
 ·cases e
 split at e
 ·cases e;omega
 split at e
 ·cases e
 have e:=map_err e;unfold trSev at e;split at e
 ·cases e
 ·cases e;omega
theorem psEndTok_cameN {s s':Ps} (e:psEndTok s=.ok s'):s'.came=s.came∧s'.opn=s.opn∧s'.st=5:=by
 unfold psEndTok at e;split at e
 ·cases e
 ·cases e;exact⟨rfl,rfl,rfl⟩
theorem psTake_came {s s':Ps} {c:UInt8} (e:psTake s c=.ok s'):s'.came=s.came:=by
 unfold psTake at e;split at e
 ·unfold psWordOn at e
  split at e
  ·cases e
  split at e
  ·cases e
  split at e
  ·cases e;rfl
  ·cases e;rfl
 split at e
 ·unfold psTokOn at e
  split at e
  ·split at e
   ·cases e
   ·cases e;rfl
  ·split at e
   ·cases e
   ·rename_i s1 h1
    exact(psOut_came e).trans (psEndTok_cameN h1).1
 split at e
 ·unfold psTextOn at e
  split at e
  ·cases e
  ·cases e;rfl
  ·split at e
   ·cases e;rfl
   ·cases e;rfl
 ·exact psOut_came e
theorem psTake_err {s:Ps} {c:UInt8} {n:Nat} (e:psTake s c=.error n):n≠0:=by
 unfold psTake at e;split at e
 ·unfold psWordOn at e
  split at e
  ·cases e;omega
  split at e
  ·cases e;omega
  split at e
  ·cases e
  ·cases e
 split at e
 ·unfold psTokOn at e
  split at e
  ·split at e
   ·cases e;omega
   ·cases e
  ·split at e
   ·rename_i m h1
    unfold psEndTok at h1;split at h1
    ·rename_i h2
     cases h1;cases e;exact h2
    ·cases h1
   ·exact psOut_err e
 split at e
 ·unfold psTextOn at e
  split at e
  ·rename_i m h1
   cases e;exact trNext_errN h1
  ·cases e
  ·split at e<;>cases e
 ·exact psOut_err e
theorem psRun_came {s s':Ps} {l:List UInt8} (e:psRun s l=.ok s'):s'.came=s.came+l.length:=by
 induction l generalizing s with
 |nil=>simp only[psRun,Except.ok.injEq]at e;subst e;rfl
 |cons c l ih=>
  rw[psRun]at e;split at e
  ·cases e
  ·rename_i s1 h1
   have h2:=ih e;have h3:=psTake_came h1;rw[h2,List.length_cons,show(psMore s1).came=s1.came+1 from rfl,h3];omega
theorem psRun_err {s:Ps} {l:List UInt8} {n c:Nat} (e:psRun s l=.error (n,c)):n≠0∧s.came≤c∧c<s.came+l.length∧∀j,(c<s.came+j→psRun s (l.take j)=.error (n,c))∧(s.came+j≤c→∃s',psRun s (l.take j)=.ok s'):=by
 induction l generalizing s with
 |nil=>simp[psRun]at e
 |cons x l ih=>
  have e0:=e;rw[psRun]at e;split at e
  ·rename_i m h1
   simp only[Except.error.injEq,Prod.mk.injEq]at e;obtain⟨rfl,rfl⟩:=e;refine⟨psTake_err h1,Nat.le_refl _,by simp,fun j=>⟨fun hj=>?_,fun hj=>?_⟩⟩
   ·cases j with
    |zero=>omega
    |succ j=>
     rw[List.take_succ_cons,psRun,h1]
   ·have:j=0:=by omega
    subst this;exact⟨s,rfl⟩
  ·rename_i s1 h1
   have h3:=psTake_came h1;obtain⟨a,b,d,f⟩:=ih e;have h4:(psMore s1).came=s.came+1:=by rw[←h3];rfl
   rw[h4]at b d f;refine⟨a,by omega,by rw[List.length_cons];omega,fun j=>?_⟩;cases j with
   |zero=>exact⟨fun hj=>by omega,fun _=>⟨s,rfl⟩⟩
   |succ j=>
    rw[List.take_succ_cons,psRun,h1];have:=f j;exact⟨fun hj=>this.1 (by omega),fun hj=>this.2 (by omega)⟩
theorem psRun_ok {s s':Ps} {m k:Nat} {l:List UInt8} (h:PsOk s m k) (e:psRun s l=.ok s'):PsOk s' (m+3*l.length) (k+l.length):=by
 induction l generalizing s m k with
 |nil=>simp only[psRun,Except.ok.injEq]at e;subst e;exact h
 |cons c l ih=>
  rw[psRun]at e;split at e
  ·cases e
  ·rename_i s1 h1
   have:=ih (psMore_ok (psTake_ok h h1)) e;rw[List.length_cons,show m+3*(l.length+1)=m+3+3*l.length by omega,show k+(l.length+1)=k+1+l.length by omega];exact this
noncomputable def psEnd (s:Ps):List It×Nat:=
 if s.st=7∧s.opn=[]then
  match psEndTok s with
  |.error n=>if n=6 then([],6)else([],7)
  |.ok s'=>(s'.items,0)
 else if s.st=5∧s.opn=[]then(s.items,0)else([],7)
noncomputable def psFin:Except (Nat×Nat) Ps→List It×Nat×Nat
 |.error (n,c)=>([],n,c)
 |.ok s=>((psEnd s).1,(psEnd s).2,s.came)
def errOf:Except (Nat×Nat) Ps→Nat
 |.error (n,_)=>n
 |.ok _=>0
theorem psTake_out {s:Ps} (c:UInt8) (h:s.st≤5):psTake s c=psOut s c:=by
 unfold psTake;rw[if_neg (by omega),if_neg (by omega),if_neg (by omega)]
theorem psTake_blank {s:Ps} (c:UInt8) (h:s.st≤5) (hb:blank c=true):psTake s c=.ok s:=by
 rw[psTake_out c h];unfold psOut;rw[if_pos hb]
inductive RV where
 |ok (n:Nat) (its:List It) (rest:List UInt8)
 |wrong (n:Nat) (rest:List UInt8)
 |ended (late:Bool)
def skipB:List UInt8→List UInt8
 |[]=>[]
 |c::r=>if blank c=true then skipB r else c::r
def wordGo:List UInt8→List UInt8→RO Unit
 |[],r=>.ok () r
 |_::_,[]=>.ended
 |x::w,c::r=>if c≠x then .wrong 3 (c::r)else wordGo w r
inductive NO where
 |stop (t:Tk) (rest:List UInt8)
 |lost (rest:List UInt8)
 |ended (t:Tk)
def tkRun (t:Tk):List UInt8→NO
 |[]=>.ended t
 |c::r=>match nxt t c with
  |none=>.stop t (c::r)
  |some t'=>if tokLost t'=true then .lost (c::r)else tkRun t' r
noncomputable def numOut (inn:Nat) (r:List UInt8):RV:=match tkRun t0 r with
 |.lost q=>.wrong 6 q
 |.stop t q=>if(tokV t).2≠0 then .wrong (tokV t).2 q else .ok 0 [⟨3,0,(tokV t).1,[]⟩] q
 |.ended t=>if(tokV t).2=0 then .ok 0 [⟨3,0,(tokV t).1,[]⟩] []else .ended (decide ((tokV t).2=6∧inn=0))
def wordV (k:Nat) (w r:List UInt8):RV:=match wordGo w r with
 |.ok _ q=>.ok 0 [⟨k,0,0,[]⟩] q
 |.wrong n q=>.wrong n q
 |.ended=>.ended false
def textV (r:List UInt8):RV:=match trRun tr0 r with
 |.ok s q=>.ok 0 [⟨4,0,0,s⟩] q
 |.wrong n q=>.wrong n q
 |.ended=>.ended false
inductive Md where
 |val|vals|pairs|pair
 |valsGo (n:Nat) (acc:List It)
 |pairsGo (n:Nat) (acc:List It)
def nestV (k:Nat):RV→RV
 |.ok n its q=>.ok 0 (⟨k,n,0,[]⟩::its) q
 |.wrong n q=>.wrong n q
 |.ended l=>.ended l
noncomputable def rGo (depth:Nat):Nat→Nat→Md→List UInt8→RV
 |0,_,_,_=>.ended false
 |f+1,inn,m,r=>match m with
  |.val=>match skipB r with
   |[]=>.ended false
   |c::q=>
    if c=34 then textV q
    else if c=91 then(if inn=depth then .wrong 4 (c::q)else nestV 5 (rGo depth f (inn+1) .vals q))
    else if c=123 then(if inn=depth then .wrong 4 (c::q)else nestV 6 (rGo depth f (inn+1) .pairs q))
    else if c=45∨isD c=true then numOut inn (c::q)
    else if c=110 then wordV 0 [110,117,108,108] (c::q)
    else if c=102 then wordV 1 [102,97,108,115,101] (c::q)
    else if c=116 then wordV 2 [116,114,117,101] (c::q)
    else .wrong 3 (c::q)
  |.vals=>match skipB r with
   |[]=>.ended false
   |c::q=>if c=93 then .ok 0 [] q else rGo depth f inn (.valsGo 1 []) (c::q)
  |.valsGo n acc=>match rGo depth f inn .val r with
   |.wrong e q=>.wrong e q
   |.ended l=>.ended l
   |.ok _ its p=>match skipB p with
    |[]=>.ended false
    |c::q=>if c=93 then .ok n (acc++its) q else if c=44 then rGo depth f inn (.valsGo (n+1) (acc++its)) q else .wrong 3 (c::q)
  |.pairs=>match skipB r with
   |[]=>.ended false
   |c::q=>if c=125 then .ok 0 [] q else rGo depth f inn (.pairsGo 1 []) (c::q)
  |.pairsGo n acc=>match rGo depth f inn .pair r with
   |.wrong e q=>.wrong e q
   |.ended l=>.ended l
   |.ok _ its p=>match skipB p with
    |[]=>.ended false
    |c::q=>if c=125 then .ok n (acc++its) q else if c=44 then rGo depth f inn (.pairsGo (n+1) (acc++its)) q else .wrong 3 (c::q)
  |.pair=>match skipB r with
   |[]=>.ended false
   |c::q=>if c≠34 then .wrong 3 (c::q)else match trRun tr0 q with
    |.wrong e p=>.wrong e p
    |.ended=>.ended false
    |.ok s p=>match skipB p with
     |[]=>.ended false
     |c2::q2=>if c2≠58 then .wrong 3 (c2::q2)else match rGo depth f inn .val q2 with
      |.wrong e p2=>.wrong e p2
      |.ended l=>.ended l
      |.ok _ its p2=>.ok 0 (⟨4,0,0,s⟩::its) p2
def need (m:Md) (r:List UInt8):Nat:=4*r.length+match m with
 |.val=>1
 |.pair=>2
 |.valsGo _ _=>2
 |.vals=>3
 |.pairsGo _ _=>3
 |.pairs=>4
theorem skipB_suf (r:List UInt8):skipB r<:+r:=by
 induction r with
 |nil=>exact List.suffix_refl _
 |cons c r ih=>
  rw[skipB];split
  ·exact ih.trans (List.suffix_cons c r)
  ·exact List.suffix_refl _
theorem skipB_head {r q:List UInt8} {c:UInt8} (h:skipB r=c::q):blank c=false:=by
 induction r with
 |nil=>cases h
 |cons x r ih=>
  rw[skipB]at h;split at h
  ·exact ih h
  ·rename_i hb
   cases h;exact Bool.eq_false_iff.2 hb
def RO.suf {α:Type} (r:List UInt8):RO α→Prop
 |.ok _ q=>q<:+r
 |.wrong _ q=>q<:+r∧q≠[]
 |.ended=>True
def RV.suf (r:List UInt8):RV→Prop
 |.ok _ _ q=>q<:+r
 |.wrong _ q=>q<:+r∧q≠[]
 |.ended _=>True
theorem RO.suf.mono {α:Type} {r r':List UInt8} {x:RO α} (h:x.suf r) (hr:r<:+r'):x.suf r':=by
 cases x with
 |ok a q=>exact h.trans hr
 |wrong n q=>exact⟨h.1.trans hr,h.2⟩
 |ended=>trivial
theorem RV.suf.mono {r r':List UInt8} {x:RV} (h:x.suf r) (hr:r<:+r'):x.suf r':=by
 cases x with
 |ok a b q=>exact List.IsSuffix.trans h hr
 |wrong n q=>exact⟨h.1.trans hr,h.2⟩
 |ended=>trivial
theorem suf_self {c:UInt8} {q:List UInt8}:(c::q)<:+(c::q)∧(c::q)≠[]:=⟨List.suffix_refl _,by simp⟩
theorem trRun_suf (t:Tr) (r:List UInt8):(trRun t r).suf r:=by
 induction r generalizing t with
 |nil=>trivial
 |cons c r ih=>
  rw[trRun];split
  ·exact suf_self
  ·exact List.suffix_cons c r
  ·exact(ih _).mono (List.suffix_cons c r)
theorem wordGo_suf (w r:List UInt8):(wordGo w r).suf r:=by
 induction w generalizing r with
 |nil=>exact List.suffix_refl _
 |cons x w ih=>
  cases r with
  |nil=>trivial
  |cons c r=>
   rw[wordGo];split
   ·exact suf_self
   ·exact(ih r).mono (List.suffix_cons c r)
theorem tkRun_suf (t:Tk) (r:List UInt8):match tkRun t r with|.stop _ q=>q<:+r∧q≠[]|.lost q=>q<:+r∧q≠[]|.ended _=>True:=by
 induction r generalizing t with
 |nil=>trivial
 |cons c r ih=>
  rw[tkRun];cases nxt t c with
  |none=>exact suf_self
  |some t'=>
   simp only;split
   ·rename_i h
    split at h
    ·cases h
    ·rename_i t2 q2 _
     have:=ih t';rw[h]at this;exact⟨this.1.trans (List.suffix_cons c r),this.2⟩
   ·rename_i h
    split at h
    ·cases h;exact suf_self
    ·have:=ih t'
     rw[h]at this;exact⟨this.1.trans (List.suffix_cons c r),this.2⟩
   ·trivial
theorem numOut_suf (inn:Nat) (r:List UInt8):(numOut inn r).suf r:=by
 have h:=tkRun_suf t0 r;unfold numOut;cases hx:tkRun t0 r with
 |lost q=>rw[hx]at h;exact h
 |stop t q=>
  rw[hx]at h;simp only;split
  ·exact h
  ·exact h.1
 |ended t=>
  simp only;split
  ·exact List.nil_suffix
  ·trivial
theorem wordV_suf (k:Nat) (w r:List UInt8):(wordV k w r).suf r:=by
 have h:=wordGo_suf w r;unfold wordV;cases hx:wordGo w r with
 |ok a q=>rw[hx]at h;exact h
 |wrong n q=>rw[hx]at h;exact h
 |ended=>trivial
theorem textV_suf (r:List UInt8):(textV r).suf r:=by
 have h:=trRun_suf tr0 r;unfold textV;cases hx:trRun tr0 r with
 |ok a q=>rw[hx]at h;exact h
 |wrong n q=>rw[hx]at h;exact h
 |ended=>trivial
theorem nestV_suf {k:Nat} {r:List UInt8} {x:RV} (h:x.suf r):(nestV k x).suf r:=by
 cases x<;>exact h
theorem rGo_suf (depth f inn:Nat) (m:Md) (r:List UInt8):(rGo depth f inn m r).suf r:=by
 induction f generalizing inn m r with
 |zero=>trivial
 |succ f ih=>
  have hs:=skipB_suf r;have tail:∀{c:UInt8} {q p:List UInt8},c::q<:+p→q<:+p:=fun h=>(List.suffix_cons _ _).trans h
  have whole:∀{c:UInt8} {q p:List UInt8},c::q<:+p→c::q<:+p∧c::q≠[]:=fun h=>⟨h,by simp⟩
  rw[rGo.eq_def];cases m with
  |val=>
   simp only;cases hx:skipB r with
   |nil=>trivial
   |cons c q=>
    rw[hx]at hs;simp only
    repeat' split
    ·exact(textV_suf q).mono (tail hs)
    ·exact whole hs
    ·exact nestV_suf ((ih _ _ _).mono (tail hs))
    ·exact whole hs
    ·exact nestV_suf ((ih _ _ _).mono (tail hs))
    ·exact(numOut_suf _ _).mono hs
    ·exact(wordV_suf _ _ _).mono hs
    ·exact(wordV_suf _ _ _).mono hs
    ·exact(wordV_suf _ _ _).mono hs
    ·exact whole hs
  |vals=>
   simp only;cases hx:skipB r with
   |nil=>trivial
   |cons c q=>
    rw[hx]at hs;simp only;split
    ·exact tail hs
    ·exact(ih _ _ _).mono hs
  |pairs=>
   simp only;cases hx:skipB r with
   |nil=>trivial
   |cons c q=>
    rw[hx]at hs;simp only;split
    ·exact tail hs
    ·exact(ih _ _ _).mono hs
  |valsGo n acc=>
   simp only;have h1:=ih inn .val r;cases hy:rGo depth f inn .val r with
   |wrong e q=>rw[hy]at h1;exact h1
   |ended l=>trivial
   |ok a its p=>
    rw[hy]at h1;have hs:=(skipB_suf p).trans h1;simp only;cases hx:skipB p with
    |nil=>trivial
    |cons c q=>
     rw[hx]at hs;simp only
     repeat' split
     ·exact tail hs
     ·exact(ih _ _ _).mono (tail hs)
     ·exact whole hs
  |pairsGo n acc=>
   simp only;have h1:=ih inn .pair r;cases hy:rGo depth f inn .pair r with
   |wrong e q=>rw[hy]at h1;exact h1
   |ended l=>trivial
   |ok a its p=>
    rw[hy]at h1;have hs:=(skipB_suf p).trans h1;simp only;cases hx:skipB p with
    |nil=>trivial
    |cons c q=>
     rw[hx]at hs;simp only
     repeat' split
     ·exact tail hs
     ·exact(ih _ _ _).mono (tail hs)
     ·exact whole hs
  |pair=>
   simp only;cases hx:skipB r with
   |nil=>trivial
   |cons c q=>
    rw[hx]at hs;simp only;split
    ·exact whole hs
    ·have h1:=(trRun_suf tr0 q).mono (tail hs)
     cases hy:trRun tr0 q with
     |wrong e p=>rw[hy]at h1;exact h1
     |ended=>trivial
     |ok s p=>
      rw[hy]at h1;have hs2:=(skipB_suf p).trans h1;simp only;cases hz:skipB p with
      |nil=>trivial
      |cons c2 q2=>
       rw[hz]at hs2;simp only;split
       ·exact whole hs2
       ·have h2:=(ih inn .val q2).mono (tail hs2)
        cases hw:rGo depth f inn .val q2 with
        |wrong e p2=>rw[hw]at h2;exact h2
        |ended l=>trivial
        |ok a its p2=>rw[hw]at h2;exact h2
def Z (d L st:Nat) (its:List It) (o:List Nat) (r:List UInt8):Ps:=⟨d,L-r.length,st,its,o,[],t0,tr0⟩
theorem run_ok {s s':Ps} {c:UInt8} {r:List UInt8} (h:psTake s c=.ok s'):psRun s (c::r)=psRun (psMore s') r:=by rw[psRun,h]
theorem run_err {s:Ps} {c:UInt8} {r:List UInt8} {n:Nat} (h:psTake s c=.error n):psRun s (c::r)=.error (n,s.came):=by rw[psRun,h]
theorem more_came {L:Nat} {c:UInt8} {r:List UInt8} (h:(c::r).length≤L):L-(c::r).length+1=L-r.length:=by
 simp only[List.length_cons]at h ⊢;omega
theorem z_more {d L st:Nat} {its:List It} {o:List Nat} {c:UInt8} {r:List UInt8} (h:(c::r).length≤L):psMore (Z d L st its o (c::r))=Z d L st its o r:=by
 show Ps.mk _ _ _ _ _ _ _ _=Ps.mk _ _ _ _ _ _ _ _
 congr 1;exact more_came h
theorem z_ok {d L st st':Nat} {its its':List It} {o o':List Nat} {c:UInt8} {r:List UInt8} (hL:(c::r).length≤L) (h:psTake (Z d L st its o (c::r)) c=.ok (Z d L st' its' o' (c::r))):
 psRun (Z d L st its o (c::r)) (c::r)=psRun (Z d L st' its' o' r) r:=by
 rw[run_ok h,z_more hL]
theorem z_skip (d L st:Nat) (its:List It) (o:List Nat) (hst:st≤5) (r:List UInt8) (hL:r.length≤L):psRun (Z d L st its o r) r=psRun (Z d L st its o (skipB r)) (skipB r):=by
 induction r with
 |nil=>rfl
 |cons c r ih=>
  rw[skipB];split
  ·rename_i hb
   rw[z_ok hL (psTake_blank c hst hb)];exact ih (by simp only[List.length_cons]at hL;omega)
  ·rfl
theorem z_take {d L st:Nat} {its:List It} {o:List Nat} {r:List UInt8} {c:UInt8} (hst:st≤5) (hb:blank c=false):psTake (Z d L st its o r) c=psBetween (Z d L st its o r) c:=by
 rw[psTake_out c hst];unfold psOut;rw[if_neg (by rw[hb];simp)]
def ZT (d L st:Nat) (its:List It) (o:List Nat) (t:Tr) (r:List UInt8):Ps:=⟨d,L-r.length,st,its,o,[],t0,t⟩
theorem text_take {d L st:Nat} {its:List It} {o:List Nat} {t:Tr} {r:List UInt8} {c:UInt8} (hst:st=8∨st=9):psTake (ZT d L st its o t r) c=psTextOn (ZT d L st its o t r) c:=by
 unfold psTake;rw[if_neg (by show¬st=6;omega),if_neg (by show¬st=7;omega)];exact if_pos hst
theorem zt_run (d L st:Nat) (its:List It) (o:List Nat) (t:Tr) (hst:st=8∨st=9) (r:List UInt8) (hL:r.length≤L):
 match trRun t r with
 |.ok s p=>psRun (ZT d L st its o t r) r=psRun (if st=8 then Z d L 4 (its++[⟨4,0,0,s⟩]) o p else Z d L 5 (bump (its++[⟨4,0,0,s⟩]) o) o p) p
 |.wrong n p=>psRun (ZT d L st its o t r) r=.error (n,L-p.length)
 |.ended=>∃s1,psRun (ZT d L st its o t r) r=.ok s1∧psEnd s1=([],7):=by
 induction r generalizing t with
 |nil=>
  refine⟨_,rfl,?_⟩;unfold psEnd;rw[if_neg (by show¬(st=7∧_);omega),if_neg (by show¬(st=5∧_);omega)]
 |cons c r ih=>
  have hm:∀t',psMore (ZT d L st its o t' (c::r))=ZT d L st its o t' r:=fun t'=>by
   show Ps.mk _ _ _ _ _ _ _ _=Ps.mk _ _ _ _ _ _ _ _
   congr 1;exact more_came hL
  rw[trRun];cases hx:trNext t c with
  |error n=>
   simp only;rw[run_err (by rw[text_take hst,psTextOn,show(ZT d L st its o t (c::r)).tx=t from rfl,hx])];rfl
  |ok p=>
   obtain⟨t',b⟩:=p;cases b with
   |false=>
    simp only;have h1:psTake (ZT d L st its o t (c::r)) c=.ok (ZT d L st its o t' (c::r)):=by rw[text_take hst,psTextOn,show(ZT d L st its o t (c::r)).tx=t from rfl,hx];rfl
    rw[run_ok h1,hm];exact ih t' (by simp only[List.length_cons]at hL;omega)
   |true=>
    simp only;by_cases h8:st=8
    ·rw[if_pos h8]
     have h1:psTake (ZT d L st its o t (c::r)) c=.ok (Z d L 4 (its++[⟨4,0,0,t'.made⟩]) o (c::r)):=by
      rw[text_take hst,psTextOn,show(ZT d L st its o t (c::r)).tx=t from rfl,hx];simp only;rw[if_pos (show(ZT d L st its o t (c::r)).st=8 from h8)];rfl
     rw[run_ok h1,z_more hL]
    ·rw[if_neg h8]
     have h1:psTake (ZT d L st its o t (c::r)) c=.ok (Z d L 5 (bump (its++[⟨4,0,0,t'.made⟩]) o) o (c::r)):=by
      rw[text_take hst,psTextOn,show(ZT d L st its o t (c::r)).tx=t from rfl,hx];simp only;rw[if_neg (show¬(ZT d L st its o t (c::r)).st=8 from h8)];rfl
     rw[run_ok h1,z_more hL]
def ZW (d L:Nat) (its:List It) (o:List Nat) (w r:List UInt8):Ps:=⟨d,L-r.length,6,its,o,w,t0,tr0⟩
theorem zw_run (d L:Nat) (its:List It) (o:List Nat) (w:List UInt8) (hw:w≠[]) (r:List UInt8) (hL:r.length≤L):
 match wordGo w r with
 |.ok _ p=>psRun (ZW d L its o w r) r=psRun (Z d L 5 (bump its o) o p) p
 |.wrong n p=>psRun (ZW d L its o w r) r=.error (n,L-p.length)
 |.ended=>∃s1,psRun (ZW d L its o w r) r=.ok s1∧psEnd s1=([],7):=by
 induction w generalizing r with
 |nil=>exact absurd rfl hw
 |cons x w ih=>
  cases r with
  |nil=>
   refine⟨_,rfl,?_⟩;unfold psEnd;rw[if_neg (by rintro⟨h,_⟩;exact absurd h (show¬(6:Nat)=7 by decide)),if_neg (by rintro⟨h,_⟩;exact absurd h (show¬(6:Nat)=5 by decide))]
  |cons c r=>
   have ht:psTake (ZW d L its o (x::w) (c::r)) c=psWordOn (ZW d L its o (x::w) (c::r)) c:=by
    unfold psTake;exact if_pos rfl
   rw[wordGo];by_cases hc:c≠x
   ·rw[if_pos hc]
    rw[run_err (by rw[ht,psWordOn];exact if_pos hc)];rfl
   ·rw[if_neg hc]
    by_cases hn:w=[]
    ·subst hn
     have h1:psTake (ZW d L its o [x] (c::r)) c=.ok (Z d L 5 (bump its o) o (c::r)):=by
      rw[ht,psWordOn]
      show(if c≠x then _ else _)=_
      rw[if_neg hc,if_pos rfl];rfl
     show psRun _ _=psRun _ _
     rw[run_ok h1,z_more hL]
    ·have h1:psTake (ZW d L its o (x::w) (c::r)) c=.ok (ZW d L its o w (c::r)):=by
      rw[ht,psWordOn]
      show(if c≠x then _ else _)=_
      rw[if_neg hc,if_neg hn];rfl
     have hm:psMore (ZW d L its o w (c::r))=ZW d L its o w r:=by
      show Ps.mk _ _ _ _ _ _ _ _=Ps.mk _ _ _ _ _ _ _ _
      congr 1;exact more_came hL
     rw[run_ok h1,hm];exact ih hn r (by simp only[List.length_cons]at hL;omega)
def ZN (d L:Nat) (its:List It) (o:List Nat) (t:Tk) (r:List UInt8):Ps:=⟨d,L-r.length,7,its,o,[],t,tr0⟩
theorem zn_take {d L:Nat} {its:List It} {o:List Nat} {t:Tk} {r:List UInt8} {c:UInt8}:psTake (ZN d L its o t r) c=psTokOn (ZN d L its o t r) c:=by
 unfold psTake;rw[if_neg (by show¬(7:Nat)=6;decide)];exact if_pos rfl
theorem zn_end (d L:Nat) (its:List It) (o:List Nat) (t:Tk) (r:List UInt8) (h:(tokV t).2=0):psEndTok (ZN d L its o t r)=.ok (Z d L 5 (bump (its++[⟨3,0,(tokV t).1,[]⟩]) o) o r):=by
 unfold psEndTok;rw[if_neg (by show¬(tokV t).2≠0;omega)];rfl
theorem zn_run (d L:Nat) (its:List It) (o:List Nat) (t:Tk) (r:List UInt8) (hL:r.length≤L):
 match tkRun t r with
 |.lost p=>psRun (ZN d L its o t r) r=.error (6,L-p.length)
 |.stop t' p=>if(tokV t').2≠0 then psRun (ZN d L its o t r) r=.error ((tokV t').2,L-p.length)else psRun (ZN d L its o t r) r=psRun (Z d L 5 (bump (its++[⟨3,0,(tokV t').1,[]⟩]) o) o p) p
 |.ended t'=>psRun (ZN d L its o t r) r=.ok (ZN d L its o t' []):=by
 induction r generalizing t with
 |nil=>rfl
 |cons c r ih=>
  rw[tkRun];cases hx:nxt t c with
  |none=>
   simp only;by_cases hv:(tokV t).2≠0
   ·rw[if_pos hv]
    have he:psEndTok (ZN d L its o t (c::r))=.error (tokV t).2:=by
     unfold psEndTok;exact if_pos hv
    rw[run_err (by rw[zn_take,psTokOn,show(ZN d L its o t (c::r)).tok=t from rfl,hx,he])];rfl
   ·rw[if_neg hv]
    have h1:psTake (ZN d L its o t (c::r)) c=psTake (Z d L 5 (bump (its++[⟨3,0,(tokV t).1,[]⟩]) o) o (c::r)) c:=by
     rw[zn_take,psTokOn,show(ZN d L its o t (c::r)).tok=t from rfl,hx,zn_end d L its o t (c::r) (Classical.not_not.1 hv)];exact(psTake_out c (show(5:Nat)≤5 by omega)).symm
    rw[psRun,psRun,h1];rfl
  |some t'=>
   simp only;by_cases hl:tokLost t'=true
   ·rw[if_pos hl]
    rw[run_err (by rw[zn_take,psTokOn,show(ZN d L its o t (c::r)).tok=t from rfl,hx];exact if_pos hl)];rfl
   ·rw[if_neg hl]
    have h1:psTake (ZN d L its o t (c::r)) c=.ok (ZN d L its o t' (c::r)):=by
     rw[zn_take,psTokOn,show(ZN d L its o t (c::r)).tok=t from rfl,hx]
     show(if tokLost t'=true then _ else _)=_
     rw[if_neg hl];rfl
    have hm:psMore (ZN d L its o t' (c::r))=ZN d L its o t' r:=by
     show Ps.mk _ _ _ _ _ _ _ _=Ps.mk _ _ _ _ _ _ _ _
     congr 1;exact more_came hL
    rw[run_ok h1,hm];exact ih t' (by simp only[List.length_cons]at hL;omega)
end Go.Proofs.YtmkkibaacclhnaaGreatDoor
