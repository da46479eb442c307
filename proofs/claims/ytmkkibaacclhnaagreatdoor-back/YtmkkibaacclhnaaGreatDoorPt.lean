/-
  A step of the walk, the part named Pt. No theorem of the row.
-/
import Derived.Test.YtmkkibaacclhnaaGreatDoorPa
import Derived.Test.YtmkkibaacclhnaaGreatDoorWa
namespace Go.Proofs.YtmkkibaacclhnaaGreatDoor
open Go.RowKit
inductive RO (α:Type) where
 |ok (a:α) (rest:List UInt8)
 |wrong (n:Nat) (rest:List UInt8)
 |ended
def trRun (t:Tr):List UInt8→RO (List UInt8)
 |[]=>.ended
 |c::r=>match trNext t c with
  |.error n=>.wrong n (c::r)
  |.ok (t',true)=>.ok t'.made r
  |.ok (t',false)=>trRun t' r
def Tx0 (out:List UInt8) (t:Tr):Prop:=t.st=0∧t.made=out∧t.high=0
def unitGo (low:Bool):Nat→Nat→List UInt8→RO Nat
 |0,n,r=>.ok n r
 |_+1,_,[]=>.ended
 |k+1,n,c::r=>match hexV c with
  |none=>.wrong 3 (c::r)
  |some h=>
   if low=true∧((k=3∧16*n+h≠13)∨(k=2∧16*n+h<220))then .wrong 5 (c::r)
   else if low=false∧k=2∧220≤16*n+h∧16*n+h<224 then .wrong 5 (c::r)
   else unitGo low k (16*n+h) r
def pairOut (n:Nat):List UInt8→RO (List UInt8)
 |[]=>.ended
 |c1::q1=>if c1≠92 then .wrong 5 (c1::q1)else match q1 with
  |[]=>.ended
  |c2::q2=>if c2≠117 then .wrong 5 (c2::q2)else match unitGo true 4 0 q2 with
   |.ok m q3=>.ok (encR (65536+1024*(n-55296)+(m-56320))) q3
   |.wrong e q=>.wrong e q
   |.ended=>.ended
def escOut:List UInt8→RO (List UInt8)
 |[]=>.ended
 |c::r=>match escV c with
  |some x=>.ok [x] r
  |none=>if c≠117 then .wrong 3 (c::r)else match unitGo false 4 0 r with
   |.wrong e q=>.wrong e q
   |.ended=>.ended
   |.ok n q=>if n<55296∨56320≤n then .ok (encR n) q else pairOut n q
theorem trRun_ok {t t':Tr} {c:UInt8} {r:List UInt8} (h:trNext t c=.ok (t',false)):trRun t (c::r)=trRun t' r:=by
 rw[trRun,h]
theorem trRun_err {t:Tr} {c:UInt8} {r:List UInt8} {n:Nat} (h:trNext t c=.error n):trRun t (c::r)=.wrong n (c::r):=by
 rw[trRun,h]
theorem escV_117:escV 117=none:=by decide
theorem unit_run (low:Bool) (k n:Nat) (r:List UInt8) (t:Tr) (hk:k+t.dg=4) (hst:t.st=3) (hn:t.code=n) (hh:low=decide (t.high≠0)) (h13:low=true→k=3→n=13) (h0:k≠0):
 match unitGo low k n r with
 |.ok m q=>∃a b c,trRun t r=trRun (trEnd ⟨3,t.made,a,b,c,4,m,t.high⟩) q
 |.wrong e q=>trRun t r=.wrong e q
 |.ended=>trRun t r=.ended:=by
 induction k generalizing n r t with
 |zero=>exact absurd rfl h0
 |succ k ih=>
  cases r with
  |nil=>rfl
  |cons c r=>
   have hx:trNext t c=(trDig t c).map (fun t'=>(t',false)):=by
    unfold trNext;rw[if_neg (by omega),if_neg (by omega),if_pos hst]
   rw[unitGo];cases hv:hexV c with
   |none=>
    simp only;exact trRun_err (by rw[hx,trDig,hv];rfl)
   |some h=>
    simp only;have hc:t.code*16+h=16*n+h:=by rw[hn];omega
    have hh13:k=2→low=true→16*n+h<224:=fun hk2 hl=>by
     have:=h13 hl (by omega);have:=hexV_lt hv;omega
    by_cases A:low=true∧((k=3∧16*n+h≠13)∨(k=2∧16*n+h<220))
    ·rw[if_pos A]
     refine trRun_err ?_;rw[hx,trDig,hv];simp only;have hhi:t.high≠0:=of_decide_eq_true (hh.symm.trans A.1);rcases A.2 with⟨a1,a2⟩|⟨a1,a2⟩
     ·rw[if_pos (show t.dg+1=1 by omega),if_pos ⟨hhi,by rw[hc];exact a2⟩];rfl
     ·rw[if_neg (show¬t.dg+1=1 by omega),if_pos (show t.dg+1=2 by omega),if_pos (by rw[hc,decide_eq_true hhi,decide_eq_false (by omega)];decide)];rfl
    rw[if_neg A];by_cases C:low=false∧k=2∧220≤16*n+h∧16*n+h<224
    ·rw[if_pos C]
     refine trRun_err ?_;rw[hx,trDig,hv];simp only;have hhi:¬t.high≠0:=of_decide_eq_false (hh.symm.trans C.1);rw[if_neg (show¬t.dg+1=1 by omega),if_pos (show t.dg+1=2 by omega),if_pos (by rw[hc,decide_eq_false hhi,decide_eq_true (by omega)];decide)];rfl
    rw[if_neg C];by_cases hk0:k=0
    ·subst hk0
     rw[unitGo];refine⟨t.lack,t.lo,t.hi,?_⟩
     have hy:trNext t c=.ok (trEnd ⟨3,t.made,t.lack,t.lo,t.hi,4,16*n+h,t.high⟩,false):=by
      rw[hx,trDig,hv];simp only;rw[if_neg (show¬t.dg+1=1 by omega),if_neg (show¬t.dg+1=2 by omega),if_pos (show t.dg+1=4 by omega)];unfold trAdd;rw[hc,hst,show t.dg+1=4 by omega];rfl
     exact trRun_ok hy
    ·have hy:trNext t c=.ok (⟨3,t.made,t.lack,t.lo,t.hi,t.dg+1,16*n+h,t.high⟩,false):=by
      rw[hx,trDig,hv];simp only;have hadd:trAdd t h=⟨3,t.made,t.lack,t.lo,t.hi,t.dg+1,16*n+h,t.high⟩:=by unfold trAdd;rw[hc,hst]
      by_cases k3:k=3
      ·rw[if_pos (show t.dg+1=1 by omega),if_neg (by
        rintro⟨b1,b2⟩
        exact A ⟨hh.trans (decide_eq_true b1),.inl ⟨k3,by rw[←hc];exact b2⟩⟩),hadd]
       rfl
      rw[if_neg (show¬t.dg+1=1 by omega)];by_cases k2:k=2
      ·rw[if_pos (show t.dg+1=2 by omega),if_neg (by
        rw[hc,←hh];cases hl:low with
        |true=>
         have b1:¬16*n+h<220:=fun b=>A ⟨hl,.inr ⟨k2,b⟩⟩
         have b2:=hh13 k2 hl;rw[decide_eq_true (by omega)];simp
        |false=>
         have b1:¬(220≤16*n+h∧16*n+h<224):=fun b=>C ⟨hl,k2,b.1,b.2⟩
         rw[decide_eq_false b1]
         simp),hadd]
       rfl
      rw[if_neg (show¬t.dg+1=2 by omega),if_neg (show¬t.dg+1=4 by omega),hadd];rfl
     rw[trRun_ok hy]
     have:=ih (16*n+h) r ⟨3,t.made,t.lack,t.lo,t.hi,t.dg+1,16*n+h,t.high⟩ (by simp only;omega) rfl rfl hh (by
      intro hl hk3;by_cases h13':16*n+h=13
      ·exact h13'
      ·exact absurd ⟨hl,.inl ⟨hk3,h13'⟩⟩ A) hk0
     exact this
theorem trNext0 {t:Tr} (h:t.st=0) (c:UInt8):trNext t c=trChar t c:=by
 unfold trNext;rw[if_neg (by omega),if_neg (by omega),if_neg (by omega)]
theorem trNext2 {t:Tr} (h:t.st=2) (c:UInt8):trNext t c=(trEsc t c).map (fun t'=>(t',false)):=by
 unfold trNext;rw[if_neg (by omega),if_pos h]
theorem trNext1 {t:Tr} (h:t.st=1) (c:UInt8):trNext t c=(trGo t c).map (fun t'=>(t',false)):=by
 unfold trNext;rw[if_pos h]
theorem trBack {t:Tr} (h:t.st=0):trNext t 92=.ok (⟨2,t.made,t.lack,t.lo,t.hi,t.dg,t.code,t.high⟩,false):=by
 rw[trNext0 h,trChar,if_pos rfl]
theorem pair_run (n:Nat) (out:List UInt8) (t:Tr) (hst:t.st=0) (hm:t.made=out) (hh:t.high=n) (hn:55296≤n) (q:List UInt8):
 match pairOut n q with
 |.ok s q3=>∃t',Tx0 (out++s) t'∧trRun t q=trRun t' q3
 |.wrong e q'=>trRun t q=.wrong e q'
 |.ended=>trRun t q=.ended:=by
 cases q with
 |nil=>rfl
 |cons c1 q1=>
  rw[pairOut.eq_def];simp only;by_cases h1:c1≠92
  ·rw[if_pos h1]
   refine trRun_err ?_;rw[trNext0 hst,trChar,if_neg h1,if_pos (by omega)]
  ·rw[if_neg h1]
   have h1:c1=92:=Classical.not_not.1 h1;subst h1;rw[trRun_ok (trBack hst)];cases q1 with
   |nil=>rfl
   |cons c2 q2=>
    simp only;by_cases h2:c2≠117
    ·rw[if_pos h2]
     refine trRun_err ?_;rw[trNext2 rfl,trEsc,if_neg h2,if_pos (by show t.high≠0;omega)];rfl
    ·rw[if_neg h2]
     have h2:c2=117:=Classical.not_not.1 h2;subst h2
     have hx:trNext ⟨2,t.made,t.lack,t.lo,t.hi,t.dg,t.code,t.high⟩ 117=.ok (⟨3,t.made,t.lack,t.lo,t.hi,0,0,t.high⟩,false):=by
      rw[trNext2 rfl,trEsc,if_pos rfl];rfl
     rw[trRun_ok hx];have hu:=unit_run true 4 0 q2 ⟨3,t.made,t.lack,t.lo,t.hi,0,0,t.high⟩ rfl rfl rfl (by show true=decide (t.high≠0);rw[decide_eq_true (by omega)]) (fun _ h=>by omega) (by omega);cases hy:unitGo true 4 0 q2 with
     |ok m q3=>
      rw[hy]at hu;obtain⟨a,b,c,hu⟩:=hu;simp only;refine⟨_,?_,hu⟩;unfold trEnd;rw[if_pos (by show t.high≠0;omega)];refine⟨rfl,?_,rfl⟩
      show t.made++encR (65536+(t.high-55296)*1024+(m-56320))=_
      rw[hm,hh,Nat.mul_comm]
     |wrong e q'=>rw[hy]at hu;exact hu
     |ended=>rw[hy]at hu;exact hu
theorem esc_run (out:List UInt8) (t:Tr) (h:Tx0 out t) (r:List UInt8):
 match escOut r with
 |.ok s q=>∃t',Tx0 (out++s) t'∧trRun t (92::r)=trRun t' q
 |.wrong e q=>trRun t (92::r)=.wrong e q
 |.ended=>trRun t (92::r)=.ended:=by
 obtain⟨hst,hm,hh⟩:=h;rw[trRun_ok (trBack hst)];cases r with
 |nil=>rfl
 |cons c r=>
  rw[escOut];cases hv:escV c with
  |some x=>
   simp only;have hc:c≠117:=fun h=>by rw[h,escV_117]at hv;cases hv
   refine⟨⟨0,t.made++[x],t.lack,t.lo,t.hi,t.dg,t.code,t.high⟩,⟨rfl,by show t.made++[x]=_;rw[hm],hh⟩,trRun_ok ?_⟩;rw[trNext2 rfl,trEsc,if_neg hc,if_neg (by show¬t.high≠0;omega),hv];rfl
  |none=>
   simp only;by_cases hc:c≠117
   ·rw[if_pos hc]
    refine trRun_err ?_;rw[trNext2 rfl,trEsc,if_neg hc,if_neg (by show¬t.high≠0;omega),hv];rfl
   ·rw[if_neg hc]
    have hc:c=117:=Classical.not_not.1 hc;subst hc
    have hx:trNext ⟨2,t.made,t.lack,t.lo,t.hi,t.dg,t.code,t.high⟩ 117=.ok (⟨3,t.made,t.lack,t.lo,t.hi,0,0,t.high⟩,false):=by
     rw[trNext2 rfl,trEsc,if_pos rfl];rfl
    rw[trRun_ok hx];have hu:=unit_run false 4 0 r ⟨3,t.made,t.lack,t.lo,t.hi,0,0,t.high⟩ rfl rfl rfl (by show false=decide (t.high≠0);rw[decide_eq_false (by omega)]) (fun h=>by cases h) (by omega);cases hy:unitGo false 4 0 r with
    |wrong e q'=>rw[hy]at hu;exact hu
    |ended=>rw[hy]at hu;exact hu
    |ok n q=>
     rw[hy]at hu;obtain⟨a,b,c,hu⟩:=hu;simp only;by_cases hn:n<55296∨56320≤n
     ·rw[if_pos hn]
      refine⟨_,?_,hu⟩;unfold trEnd;rw[if_neg (by show¬t.high≠0;omega),if_neg (by show¬(55296≤n∧n<56320);omega)];exact⟨rfl,by show t.made++encR n=_;rw[hm],hh⟩
     ·rw[if_neg hn]
      have he:trEnd ⟨3,t.made,a,b,c,4,n,t.high⟩=⟨0,t.made,a,b,c,4,n,n⟩:=by
       unfold trEnd;rw[if_neg (by show¬t.high≠0;omega),if_pos (by show 55296≤n∧n<56320;omega)]
      simp only at hu;rw[he]at hu;rw[hu];exact pair_run n out ⟨0,t.made,a,b,c,4,n,n⟩ rfl hm rfl (by omega) q
def begGo:Nat→Nat→Nat→List UInt8→Option (Nat×Nat)
 |0,low,top,_=>some (low,top)
 |k+1,low,top,[]=>begGo k (64*low) (64*top+63) []
 |k+1,low,top,c::r=>if c.toNat<128∨191<c.toNat then none else begGo k (64*low+c.toNat-128) (64*top+c.toNat-128) r
def begSize (c:Nat):Nat:=if 192≤c∧c<224 then 2 else if 224≤c∧c<240 then 3 else if 240≤c∧c<248 then 4 else 0
def begBase (c:Nat):Nat:=if 192≤c∧c<224 then 192 else if 224≤c∧c<240 then 224 else 240
def begLeast (k:Nat):Nat:=if k=2 then 128 else if k=3 then 2048 else 65536
def begOk (k low top:Nat):Nat:=if top<begLeast k∨1114111<low∨(55296≤low∧top≤57343)then 0 else k
def begN (c:Nat) (r:List UInt8):Nat:=if begSize c=0 then 0 else match begGo (begSize c-1) (c-begBase c) (c-begBase c) r with
 |none=>0
 |some (low,top)=>begOk (begSize c) low top
def beginsV:List UInt8→Nat
 |[]=>0
 |c::r=>begN c.toNat r
def charGo (p:List UInt8):List UInt8→RO (List UInt8)
 |[]=>.ended
 |c::r=>if beginsV (p++[c])=0 then .wrong 2 (c::r)else if(p++[c]).length=beginsV (p++[c])then .ok (p++[c]) r else charGo (p++[c]) r
theorem size2 {n:Nat} (h:192≤n∧n<224):begSize n=2∧begBase n=192:=by
 unfold begSize begBase;rw[if_pos h,if_pos h];exact⟨rfl,rfl⟩
theorem size3 {n:Nat} (h:224≤n∧n<240):begSize n=3∧begBase n=224:=by
 unfold begSize begBase;rw[if_neg (by omega),if_pos h,if_neg (by omega),if_pos h];exact⟨rfl,rfl⟩
theorem size4 {n:Nat} (h:240≤n∧n<248):begSize n=4∧begBase n=240:=by
 unfold begSize begBase;rw[if_neg (by omega),if_neg (by omega),if_pos h,if_neg (by omega),if_neg (by omega)];exact⟨rfl,rfl⟩
theorem size0 {n:Nat} (h:n<192∨248≤n):begSize n=0:=by
 unfold begSize;rw[if_neg (by omega),if_neg (by omega),if_neg (by omega)]
theorem begN0 {n:Nat} (h:n<192∨248≤n) (r:List UInt8):begN n r=0:=by
 unfold begN;rw[size0 h];rfl
def begEnd (k:Nat):Option (Nat×Nat)→Nat
 |none=>0
 |some (low,top)=>begOk k low top
theorem begN2 {n:Nat} (h:192≤n∧n<224) (r:List UInt8):begN n r=begEnd 2 (begGo 1 (n-192) (n-192) r):=by
 unfold begN;rw[(size2 h).1,(size2 h).2];cases begGo 1 (n-192) (n-192) r<;>rfl
theorem begN3 {n:Nat} (h:224≤n∧n<240) (r:List UInt8):begN n r=begEnd 3 (begGo 2 (n-224) (n-224) r):=by
 unfold begN;rw[(size3 h).1,(size3 h).2];cases begGo 2 (n-224) (n-224) r<;>rfl
theorem begN4 {n:Nat} (h:240≤n∧n<248) (r:List UInt8):begN n r=begEnd 4 (begGo 3 (n-240) (n-240) r):=by
 unfold begN;rw[(size4 h).1,(size4 h).2];cases begGo 3 (n-240) (n-240) r<;>rfl
theorem begOk_yes {k low top:Nat} (h:¬(top<begLeast k∨1114111<low∨(55296≤low∧top≤57343))):begOk k low top=k:=if_neg h
theorem begOk_no {k low top:Nat} (h:top<begLeast k∨1114111<low∨(55296≤low∧top≤57343)):begOk k low top=0:=if_pos h
theorem least2:begLeast 2=128:=rfl
theorem least3:begLeast 3=2048:=rfl
theorem least4:begLeast 4=65536:=rfl
theorem begGo_no {k low top:Nat} {c:UInt8} {r:List UInt8} (h:c.toNat<128∨191<c.toNat):begGo (k+1) low top (c::r)=none:=by
 rw[begGo,if_pos h]
theorem begGo_yes {k low top:Nat} {c:UInt8} {r:List UInt8} (h:¬(c.toNat<128∨191<c.toNat)):begGo (k+1) low top (c::r)=begGo k (64*low+c.toNat-128) (64*top+c.toNat-128) r:=by
 rw[begGo,if_neg h]
def loB (c:Nat):Nat:=if c=224 then 160 else if c=240 then 144 else 128
def hiB (c:Nat):Nat:=if c=237 then 159 else if c=244 then 143 else 191
def lackB (c:Nat):Nat:=if c≤223 then 1 else if c≤239 then 2 else 3
theorem loB_is (n:Nat):(n=224→loB n=160)∧(n=240→loB n=144)∧(n≠224→n≠240→loB n=128):=by
 unfold loB;refine⟨fun h=>if_pos h,fun h=>?_,fun h1 h2=>?_⟩
 ·rw[if_neg (by omega),if_pos h]
 ·rw[if_neg h1,if_neg h2]
theorem hiB_is (n:Nat):(n=237→hiB n=159)∧(n=244→hiB n=143)∧(n≠237→n≠244→hiB n=191):=by
 unfold hiB;refine⟨fun h=>if_pos h,fun h=>?_,fun h1 h2=>?_⟩
 ·rw[if_neg (by omega),if_pos h]
 ·rw[if_neg h1,if_neg h2]
theorem beg_first (n:Nat):(194≤n∧n≤244→begN n []=lackB n+1)∧(¬(194≤n∧n≤244)→begN n []=0):=by
 by_cases h2:192≤n∧n<224
 ·rw[begN2 h2]
  show(_→begOk 2 (64*(n-192)) (64*(n-192)+63)=_)∧(_→begOk 2 (64*(n-192)) (64*(n-192)+63)=_)
  refine⟨fun h=>?_,fun h=>begOk_no (by rw[least2];omega)⟩;rw[begOk_yes (by rw[least2];omega),lackB,if_pos (by omega)]
 by_cases h3:224≤n∧n<240
 ·rw[begN3 h3]
  show(_→begOk 3 (64*(64*(n-224))) (64*(64*(n-224)+63)+63)=_)∧(_→begOk 3 (64*(64*(n-224))) (64*(64*(n-224)+63)+63)=_)
  refine⟨fun h=>?_,fun h=>by omega⟩;rw[begOk_yes (by rw[least3];omega),lackB,if_neg (by omega),if_pos (by omega)]
 by_cases h4:240≤n∧n<248
 ·rw[begN4 h4]
  show(_→begOk 4 (64*(64*(64*(n-240)))) (64*(64*(64*(n-240)+63)+63)+63)=_)∧(_→begOk 4 (64*(64*(64*(n-240)))) (64*(64*(64*(n-240)+63)+63)+63)=_)
  refine⟨fun h=>?_,fun h=>begOk_no (by rw[least4];omega)⟩;rw[begOk_yes (by rw[least4];omega),lackB,if_neg (by omega),if_neg (by omega)]
 ·rw[begN0 (by omega)]
  exact⟨fun h=>by omega,fun _=>rfl⟩
theorem beg_second (n:Nat) (c:UInt8) (hn:194≤n∧n≤244):(loB n≤c.toNat∧c.toNat≤hiB n→begN n [c]=lackB n+1)∧(¬(loB n≤c.toNat∧c.toNat≤hiB n)→begN n [c]=0):=by
 obtain⟨l1,l2,l3⟩:=loB_is n;obtain⟨g1,g2,g3⟩:=hiB_is n;generalize loB n=a at*;generalize hiB n=b at*;by_cases hc:c.toNat<128∨191<c.toNat
 ·have h0:begN n [c]=0:=by
   by_cases h2:192≤n∧n<224
   ·rw[begN2 h2,begGo_no hc];rfl
   by_cases h3:224≤n∧n<240
   ·rw[begN3 h3,begGo_no hc];rfl
   ·rw[begN4 (by omega),begGo_no hc];rfl
  exact⟨fun h=>by omega,fun _=>h0⟩
 by_cases h2:192≤n∧n<224
 ·rw[begN2 h2,begGo_yes hc]
  show(_→begOk 2 (64*(n-192)+c.toNat-128) (64*(n-192)+c.toNat-128)=_)∧(_→begOk 2 (64*(n-192)+c.toNat-128) (64*(n-192)+c.toNat-128)=_)
  rw[begOk_yes (by rw[least2];omega),lackB,if_pos (by omega)];exact⟨fun _=>rfl,fun h=>by omega⟩
 by_cases h3:224≤n∧n<240
 ·rw[begN3 h3,begGo_yes hc]
  show(_→begOk 3 (64*(64*(n-224)+c.toNat-128)) (64*(64*(n-224)+c.toNat-128)+63)=_)∧(_→begOk 3 (64*(64*(n-224)+c.toNat-128)) (64*(64*(n-224)+c.toNat-128)+63)=_)
  refine⟨fun h=>?_,fun h=>begOk_no (by rw[least3];omega)⟩;rw[begOk_yes (by rw[least3];omega),lackB,if_neg (by omega),if_pos (by omega)]
 ·rw[begN4 (by omega),begGo_yes hc]
  show(_→begOk 4 (64*(64*(64*(n-240)+c.toNat-128))) (64*(64*(64*(n-240)+c.toNat-128)+63)+63)=_)∧(_→begOk 4 (64*(64*(64*(n-240)+c.toNat-128))) (64*(64*(64*(n-240)+c.toNat-128)+63)+63)=_)
  refine⟨fun h=>?_,fun h=>begOk_no (by rw[least4];omega)⟩;rw[begOk_yes (by rw[least4];omega),lackB,if_neg (by omega),if_neg (by omega)]
theorem beg_third (n:Nat) (c e:UInt8) (hn:224≤n∧n≤244) (hc:loB n≤c.toNat∧c.toNat≤hiB n):(128≤e.toNat∧e.toNat≤191→begN n [c,e]=lackB n+1)∧(¬(128≤e.toNat∧e.toNat≤191)→begN n [c,e]=0):=by
 obtain⟨l1,l2,l3⟩:=loB_is n;obtain⟨g1,g2,g3⟩:=hiB_is n;generalize loB n=a at*;generalize hiB n=b at*;have hc1:¬(c.toNat<128∨191<c.toNat):=by omega
 by_cases he:e.toNat<128∨191<e.toNat
 ·have h0:begN n [c,e]=0:=by
   by_cases h3:224≤n∧n<240
   ·rw[begN3 h3,begGo_yes hc1,begGo_no he];rfl
   ·rw[begN4 (by omega),begGo_yes hc1,begGo_no he];rfl
  exact⟨fun h=>by omega,fun _=>h0⟩
 by_cases h3:224≤n∧n<240
 ·rw[begN3 h3,begGo_yes hc1,begGo_yes he]
  show(_→begOk 3 (64*(64*(n-224)+c.toNat-128)+e.toNat-128) (64*(64*(n-224)+c.toNat-128)+e.toNat-128)=_)∧(_→begOk 3 (64*(64*(n-224)+c.toNat-128)+e.toNat-128) (64*(64*(n-224)+c.toNat-128)+e.toNat-128)=_)
  rw[begOk_yes (by rw[least3];omega),lackB,if_neg (by omega),if_pos (by omega)];exact⟨fun _=>rfl,fun h=>by omega⟩
 ·rw[begN4 (by omega),begGo_yes hc1,begGo_yes he]
  show(_→begOk 4 (64*(64*(64*(n-240)+c.toNat-128)+e.toNat-128)) (64*(64*(64*(n-240)+c.toNat-128)+e.toNat-128)+63)=_)∧(_→begOk 4 (64*(64*(64*(n-240)+c.toNat-128)+e.toNat-128)) (64*(64*(64*(n-240)+c.toNat-128)+e.toNat-128)+63)=_)
  rw[begOk_yes (by rw[least4];omega),lackB,if_neg (by omega),if_neg (by omega)];exact⟨fun _=>rfl,fun h=>by omega⟩
theorem beg_fourth (n:Nat) (c e f:UInt8) (hn:240≤n∧n≤244) (hc:loB n≤c.toNat∧c.toNat≤hiB n) (he:128≤e.toNat∧e.toNat≤191):(128≤f.toNat∧f.toNat≤191→begN n [c,e,f]=4)∧(¬(128≤f.toNat∧f.toNat≤191)→begN n [c,e,f]=0):=by
 obtain⟨l1,l2,l3⟩:=loB_is n;obtain⟨g1,g2,g3⟩:=hiB_is n;generalize loB n=a at*;generalize hiB n=b at*;have hc1:¬(c.toNat<128∨191<c.toNat):=by omega
 have he1:¬(e.toNat<128∨191<e.toNat):=by omega
 rw[begN4 (by omega),begGo_yes hc1,begGo_yes he1];by_cases hf:f.toNat<128∨191<f.toNat
 ·rw[begGo_no hf]
  exact⟨fun h=>by omega,fun _=>rfl⟩
 ·rw[begGo_yes hf]
  show(_→begOk 4 (64*(64*(64*(n-240)+c.toNat-128)+e.toNat-128)+f.toNat-128) (64*(64*(64*(n-240)+c.toNat-128)+e.toNat-128)+f.toNat-128)=_)∧(_→begOk 4 (64*(64*(64*(n-240)+c.toNat-128)+e.toNat-128)+f.toNat-128) (64*(64*(64*(n-240)+c.toNat-128)+e.toNat-128)+f.toNat-128)=_)
  rw[begOk_yes (by rw[least4];omega)];exact⟨fun _=>rfl,fun h=>by omega⟩
theorem go_wrong {t:Tr} {c:UInt8} {r:List UInt8} (hst:t.st=1) (h:c.toNat<t.lo∨t.hi<c.toNat):trRun t (c::r)=.wrong 2 (c::r):=
 trRun_err (by rw[trNext1 hst,trGo,if_pos h];rfl)
theorem go_on {t:Tr} {c:UInt8} {r:List UInt8} (hst:t.st=1) (h:¬(c.toNat<t.lo∨t.hi<c.toNat)):trRun t (c::r)=trRun ⟨if t.lack-1=0 then 0 else t.st,t.made++[c],t.lack-1,128,191,t.dg,t.code,t.high⟩ r:=
 trRun_ok (by rw[trNext1 hst,trGo,if_neg h];rfl)
theorem lackB_is (n:Nat):(n≤223→lackB n=1)∧(224≤n→n≤239→lackB n=2)∧(240≤n→lackB n=3):=by
 unfold lackB;refine⟨fun h=>if_pos h,fun h1 h2=>?_,fun h=>?_⟩
 ·rw[if_neg (by omega),if_pos h2]
 ·rw[if_neg (by omega),if_neg (by omega)]
theorem char_sev {t:Tr} {c:UInt8} (hst:t.st=0) (hh:t.high=0) (hc:128≤c.toNat):trNext t c=(trSev t c).map (fun t'=>(t',false)):=by
 rw[trNext0 hst,trChar,if_neg (by rintro rfl;exact absurd hc (by decide)),if_neg (by omega),if_neg (by rintro rfl;exact absurd hc (by decide)),if_neg (by omega),if_neg (by omega)]
theorem charGo_cons (p:List UInt8) (c:UInt8) (r:List UInt8):charGo p (c::r)=if beginsV (p++[c])=0 then .wrong 2 (c::r)else if(p++[c]).length=beginsV (p++[c])then .ok (p++[c]) r else charGo (p++[c]) r:=by rw[charGo]
theorem char_run (out:List UInt8) (t:Tr) (h:Tx0 out t) (c:UInt8) (hc:128≤c.toNat) (r:List UInt8):
 match charGo [] (c::r)with
 |.ok s q=>∃t',Tx0 (out++s) t'∧trRun t (c::r)=trRun t' q
 |.wrong e q=>trRun t (c::r)=.wrong e q
 |.ended=>trRun t (c::r)=.ended:=by
 obtain⟨hst,hm,hh⟩:=h;obtain⟨b1,b2⟩:=beg_first c.toNat;obtain⟨k1,k2,k3⟩:=lackB_is c.toNat;rw[charGo_cons,show beginsV ([]++[c])=begN c.toNat []from rfl];by_cases h1:194≤c.toNat∧c.toNat≤244
 rotate_left
 ·rw[b2 h1,if_pos rfl]
  refine trRun_err ?_;rw[char_sev hst hh hc,trSev,if_neg h1];rfl
 rw[b1 h1,if_neg (by omega),if_neg (by show¬1=_;omega)]
 have hx:trNext t c=.ok (⟨1,t.made++[c],lackB c.toNat,loB c.toNat,hiB c.toNat,t.dg,t.code,t.high⟩,false):=by
  rw[char_sev hst hh hc,trSev,if_pos h1];rfl
 rw[trRun_ok hx,List.nil_append];cases r with
 |nil=>rfl
 |cons d r=>
  obtain⟨e1,e2⟩:=beg_second c.toNat d h1;rw[charGo_cons,show beginsV ([c]++[d])=begN c.toNat [d]from rfl];by_cases h2:loB c.toNat≤d.toNat∧d.toNat≤hiB c.toNat
  rotate_left
  ·rw[e2 h2,if_pos rfl]
   exact go_wrong rfl (by simp only;omega)
  rw[e1 h2,if_neg (by omega),go_on rfl (by simp only;omega)];by_cases g2:c.toNat≤223
  ·rw[if_pos (by show 2=_;rw[k1 g2])]
   refine⟨_,⟨?_,?_,?_⟩,rfl⟩
   ·show(if lackB c.toNat-1=0 then 0 else 1)=0
    rw[k1 g2];rfl
   ·show t.made++[c]++[d]=_
    rw[hm,List.append_assoc]
   ·exact hh
  rw[if_neg (by show¬2=_;omega)];cases r with
  |nil=>rfl
  |cons e r=>
   obtain⟨f1,f2⟩:=beg_third c.toNat d e (by omega) h2;have hs:(if lackB c.toNat-1=0 then 0 else 1)=1:=if_neg (by omega);rw[charGo_cons,show beginsV ([c]++[d]++[e])=begN c.toNat [d,e]from rfl];by_cases h3:128≤e.toNat∧e.toNat≤191
   rotate_left
   ·rw[f2 h3,if_pos rfl]
    exact go_wrong hs (by simp only;omega)
   rw[f1 h3,if_neg (by omega),go_on hs (by simp only;omega)];by_cases g3:c.toNat≤239
   ·rw[if_pos (by show 3=_;rw[k2 (by omega) g3])]
    refine⟨_,⟨?_,?_,?_⟩,rfl⟩
    ·show(if lackB c.toNat-1-1=0 then 0 else _)=0
     rw[k2 (by omega) g3];rfl
    ·show t.made++[c]++[d]++[e]=_
     rw[hm];simp
    ·exact hh
   rw[if_neg (by show¬3=_;rw[k3 (by omega)];omega)];cases r with
   |nil=>rfl
   |cons f r=>
    obtain⟨i1,i2⟩:=beg_fourth c.toNat d e f (by omega) h2 h3;have hs3:(if lackB c.toNat-1-1=0 then 0 else(if lackB c.toNat-1=0 then 0 else 1))=1:=by rw[k3 (by omega)];rfl
    rw[charGo_cons,show beginsV ([c]++[d]++[e]++[f])=begN c.toNat [d,e,f]from rfl];by_cases h4:128≤f.toNat∧f.toNat≤191
    rotate_left
    ·rw[i2 h4,if_pos rfl]
     exact go_wrong hs3 (by simp only;omega)
    rw[i1 h4,if_neg (by omega),go_on hs3 (by simp only;omega),if_pos (show([c]++[d]++[e]++[f]).length=4 from rfl)];refine⟨_,⟨?_,?_,?_⟩,rfl⟩
    ·show(if lackB c.toNat-1-1-1=0 then 0 else _)=0
     rw[k3 (by omega)];rfl
    ·show t.made++[c]++[d]++[e]++[f]=_
     rw[hm];simp
    ·exact hh
theorem bump_get (items:List It) (opn:List Nat) (i:Nat) (x:It) (h:items[i]? =some x):∃x',(bump items opn)[i]? =some x'∧x'.n≤x.n+1∧x'.k=x.k:=by
 rcases List.eq_nil_or_concat opn with rfl|⟨pre,j,rfl⟩
 ·exact⟨x,h,by omega,rfl⟩
 ·rw[List.concat_eq_append,bump_last,List.getElem?_modify,h]
  by_cases hj:j=i
  ·exact⟨⟨x.k,x.n+1,x.b,x.s⟩,by simp[hj],Nat.le_refl _,rfl⟩
  ·exact⟨x,by simp[hj],by omega,rfl⟩
theorem bump_len (items:List It) (opn:List Nat):(bump items opn).length=items.length:=by
 rcases List.eq_nil_or_concat opn with rfl|⟨pre,j,rfl⟩
 ·rfl
 ·rw[List.concat_eq_append,bump_last,List.length_modify]
theorem TkOk.more {t:Tk} {k:Nat} (h:TkOk t k):TkOk t (k+1):=⟨h.st,h.digs,h.head,h.len,by have:=h.p1;omega,by have:=h.p2;omega,h.pw⟩
theorem t0_okk (k:Nat):TkOk t0 k:=by
 induction k with
 |zero=>exact t0_ok
 |succ k ih=>exact ih.more
theorem tr0_okk (k:Nat):TrOk tr0 k:=by
 induction k with
 |zero=>exact tr0_ok
 |succ k ih=>exact ih.more
theorem t0_pw:PwZero t0:=fun _=>rfl
structure PsC (s:Ps) (m:Nat):Prop where
 dep1:1≤s.depth
 dep2:s.depth≤1000
 opn:∀i∈s.opn,∃x,s.items[i]? =some x∧x.n≤m
 oln:s.opn.length≤m
 iln:s.items.length≤m
 wln:s.word.length≤4
structure PsOk (s:Ps) (m k:Nat):Prop where
 c:PsC s m
 st:s.st≤9
 o13:s.st=1∨s.st=3→s.opn≠[]
 wrd:s.st=6→s.word≠[]
 tok:s.st≠7→s.tok=t0
 tk1:TkOk s.tok k
 tk2:PwZero s.tok
 tx:s.st≠8→s.st≠9→s.tx=tr0
 txk:TrOk s.tx k
theorem PsC.up {s:Ps} {m m':Nat} (h:PsC s m) (hm:m≤m'):PsC s m':=
 ⟨h.dep1,h.dep2,fun i hi=>by obtain⟨x,a,b⟩:=h.opn i hi;exact⟨x,a,by omega⟩,by have:=h.oln;omega,by have:=h.iln;omega,h.wln⟩
theorem PsC.ok {s:Ps} {m:Nat} (h:PsC s m) (hm:m≤10000000):OpnOk s:=fun i hi=>by obtain⟨x,a,b⟩:=h.opn i hi;exact⟨x,a,by omega⟩
theorem PsC.at {s:Ps} {m:Nat} (h:PsC s m) (k:Nat) (hst:s.st=0∨s.st=2∨s.st=4∨s.st=5) (ht:s.tok=t0) (hx:s.tx=tr0):PsOk s m k:=
 ⟨h,by omega,fun h=>by omega,fun h=>by omega,fun _=>ht,by rw[ht];exact t0_okk k,by rw[ht];exact t0_pw,fun _ _=>hx,by rw[hx];exact tr0_okk k⟩
theorem PsC.endValue {s:Ps} {m:Nat} (h:PsC s m):PsC (psEndValue s) (m+1):=
 ⟨h.dep1,h.dep2,fun i hi=>by
  obtain⟨x,a,b⟩:=h.opn i hi;obtain⟨x',a',b',_⟩:=bump_get s.items s.opn i x a
  exact⟨x',a',by omega⟩,by have:=h.oln;show s.opn.length≤_;omega,by have:=h.iln;show(bump s.items s.opn).length≤_;rw[bump_len];omega,h.wln⟩
theorem PsC.endInner {s:Ps} {m:Nat} (h:PsC s m):PsC (psEndInner s) (m+1):=
 PsC.endValue (s:=⟨s.depth,s.came,s.st,s.items,s.opn.dropLast,s.word,s.tok,s.tx⟩)
  ⟨h.dep1,h.dep2,fun i hi=>h.opn i (List.dropLast_subset _ hi),by have:=h.oln;show s.opn.dropLast.length≤m;rw[List.length_dropLast];omega,h.iln,h.wln⟩
theorem PsC.item {s:Ps} {m:Nat} (h:PsC s m) (x:It) (st:Nat) (w:List UInt8) (hw:w.length≤4) (t:Tk) (r:Tr):PsC ⟨s.depth,s.came,st,s.items++[x],s.opn,w,t,r⟩ (m+1):=by
 refine⟨h.dep1,h.dep2,?_,?_,?_,hw⟩
 ·intro i hi
  obtain⟨y,a,b⟩:=h.opn i hi;refine⟨y,?_,by omega⟩
  show(s.items++[x])[i]? =some y
  rw[List.getElem?_append_left]
  ·exact a
  ·rcases Nat.lt_or_ge i s.items.length with h1|h1
   ·exact h1
   ·rw[List.getElem?_eq_none h1]at a;cases a
 ·have:=h.oln;show s.opn.length≤_;omega
 ·have:=h.iln;show(s.items++[x]).length≤_;simp;omega
theorem psNest_ok {s s':Ps} {m k kd st:Nat} (h:PsOk s m k) (h0:s.st=0∨s.st=1) (hst:st=1∨st=3) (e:psNest s kd st=.ok s'):PsOk s' (m+1) k:=by
 unfold psNest at e;split at e
 ·cases e
 simp only[Except.ok.injEq]at e;subst e;have ht:=h.tok (by omega);have hx:=h.tx (by omega) (by omega);have hi:=h.c.item ⟨kd,0,0,[]⟩ st s.word h.c.wln s.tok s.tx;refine⟨⟨hi.dep1,hi.dep2,?_,?_,hi.iln,hi.wln⟩,by show st≤9;omega,fun _=>by simp,fun (h:st=6)=>by omega,fun _=>ht,h.tk1,h.tk2,fun _ _=>hx,h.txk⟩
 ·intro i hm
  have hm:i∈s.opn++[s.items.length]:=hm;rcases List.mem_append.1 hm with h1|h1
  ·exact hi.opn i h1
  ·simp at h1
   subst h1;exact⟨⟨kd,0,0,[]⟩,by simp,Nat.zero_le _⟩
 ·have:=h.c.oln
  show(s.opn++[s.items.length]).length≤m+1
  simp;omega
theorem psBegin_ok {s s':Ps} {m k:Nat} {c:UInt8} (h:PsOk s m k) (h0:s.st=0∨s.st=1) (e:psBegin s c=.ok s'):PsOk s' (m+1) (k+1):=by
 have ht:=h.tok (by omega);have hx:=h.tx (by omega) (by omega)
 have word:∀kd rest,rest≠[]→rest.length≤4→PsOk (psWord s kd rest) (m+1) (k+1):=fun kd rest hr hl=>
  ⟨h.c.item ⟨kd,0,0,[]⟩ 6 rest hl s.tok s.tx,by show 6≤9;omega,fun (h:6=1∨6=3)=>by omega,fun _=>hr,fun _=>ht,h.tk1.more,h.tk2,fun _ _=>hx,h.txk.more⟩
 have upk:∀{s m},PsOk s m k→PsOk s m (k+1):=fun h=>⟨h.c,h.st,h.o13,h.wrd,h.tok,h.tk1.more,h.tk2,h.tx,h.txk.more⟩
 unfold psBegin at e;split at e
 ·simp only[Except.ok.injEq]at e;subst e;exact word _ _ (by simp) (by simp)
 split at e
 ·simp only[Except.ok.injEq]at e;subst e;exact word _ _ (by simp) (by simp)
 split at e
 ·simp only[Except.ok.injEq]at e;subst e;exact word _ _ (by simp) (by simp)
 split at e
 ·simp only[Except.ok.injEq]at e;subst e
  have hc:=h.c.up (show m≤m+1 by omega);exact⟨⟨hc.dep1,hc.dep2,hc.opn,hc.oln,hc.iln,hc.wln⟩,by show 9≤9;omega,fun (h:9=1∨9=3)=>by omega,fun (h:9=6)=>by omega,fun _=>ht,h.tk1.more,h.tk2,fun _ h=>absurd rfl h,h.txk.more⟩
 split at e
 ·exact upk (psNest_ok h h0 (.inl rfl) e)
 split at e
 ·exact upk (psNest_ok h h0 (.inr rfl) e)
 split at e
 ·cases e
 ·rename_i t hn
  simp only[Except.ok.injEq]at e;subst e;have hk:=nxt_ok h.tk1 h.tk2 hn;have hc:=h.c.up (show m≤m+1 by omega);exact⟨⟨hc.dep1,hc.dep2,hc.opn,hc.oln,hc.iln,hc.wln⟩,by show 7≤9;omega,fun (h:7=1∨7=3)=>by omega,fun (h:7=6)=>by omega,fun h=>absurd rfl h,hk.1,hk.2,fun _ _=>hx,h.txk.more⟩
theorem psSt_ok {s:Ps} {m k:Nat} (h:PsC s m) (st:Nat) (hst:st=0∨st=2∨st=4∨st=5) (ht:s.tok=t0) (hx:s.tx=tr0):PsOk (psSt s st) (m+1) k:=
 PsC.at (s:=psSt s st) (by have hc:=h.up (show m≤m+1 by omega);exact⟨hc.dep1,hc.dep2,hc.opn,hc.oln,hc.iln,hc.wln⟩) k hst ht hx
theorem psBehind_ok {s s':Ps} {m k:Nat} {c:UInt8} (h:PsOk s m k) (h5:s.st=5) (e:psBehind s c=.ok s'):PsOk s' (m+1) (k+1):=by
 have ht:=h.tok (by omega);have hx:=h.tx (by omega) (by omega);unfold psBehind at e;split at e
 ·simp only[Except.ok.injEq]at e;subst e;exact psSt_ok h.c 0 (by omega) ht hx
 split at e
 ·simp only[Except.ok.injEq]at e;subst e;exact psSt_ok h.c 2 (by omega) ht hx
 split at e
 ·simp only[Except.ok.injEq]at e;subst e;exact h.c.endInner.at (k+1) (.inr (.inr (.inr rfl))) ht hx
 ·cases e
theorem psOut_ok {s s':Ps} {m k:Nat} {c:UInt8} (h:PsOk s m k) (h5:s.st≤5) (e:psOut s c=.ok s'):PsOk s' (m+1) (k+1):=by
 have ht:=h.tok (by omega);have hx:=h.tx (by omega) (by omega);unfold psOut at e;split at e
 ·simp only[Except.ok.injEq]at e;subst e
  exact⟨h.c.up (by omega),h.st,h.o13,h.wrd,h.tok,h.tk1.more,h.tk2,h.tx,h.txk.more⟩
 unfold psBetween at e;split at e
 ·simp only[Except.ok.injEq]at e;subst e;exact h.c.endInner.at (k+1) (.inr (.inr (.inr rfl))) ht hx
 split at e
 ·exact psBegin_ok h (by assumption) e
 split at e
 ·simp only[Except.ok.injEq]at e;subst e
  have hc:=h.c.up (show m≤m+1 by omega);exact⟨⟨hc.dep1,hc.dep2,hc.opn,hc.oln,hc.iln,hc.wln⟩,by show 8≤9;omega,fun (h:8=1∨8=3)=>by omega,fun (h:8=6)=>by omega,fun _=>ht,h.tk1.more,h.tk2,fun h _=>absurd rfl h,h.txk.more⟩
 split at e
 ·simp only[Except.ok.injEq]at e;subst e;exact psSt_ok h.c 0 (by omega) ht hx
 split at e
 ·rename_i h6
  exact psBehind_ok h h6.1 e
 ·cases e
theorem psEndTok_ok {s s':Ps} {m k:Nat} (h:PsOk s m k) (h7:s.st=7) (e:psEndTok s=.ok s'):PsOk s' (m+2) k∧s'.st=5:=by
 have hx:=h.tx (by omega) (by omega);unfold psEndTok at e;split at e
 ·cases e
 simp only[Except.ok.injEq]at e;subst e;have hc:=(h.c.item ⟨3,0,(tokV s.tok).1,[]⟩ s.st s.word h.c.wln t0 s.tx).endValue;exact⟨hc.at k (.inr (.inr (.inr rfl))) rfl hx,rfl⟩
theorem psTake_ok {s s':Ps} {m k:Nat} {c:UInt8} (h:PsOk s m k) (e:psTake s c=.ok s'):PsOk s' (m+3) (k+1):=by
 have upm:∀{s m m'},PsOk s m (k+1)→m≤m'→PsOk s m' (k+1):=fun h hm=>⟨h.c.up hm,h.st,h.o13,h.wrd,h.tok,h.tk1,h.tk2,h.tx,h.txk⟩
 unfold psTake at e;split at e
 ·
  rename_i h6
  have ht:=h.tok (by omega);have hx:=h.tx (by omega) (by omega);have hwl:=h.c.wln;unfold psWordOn at e;split at e
  ·cases e
  rename_i x r hw
  rw[hw]at hwl;simp at hwl;split at e
  ·cases e
  have hc:PsC ⟨s.depth,s.came,s.st,s.items,s.opn,r,s.tok,s.tx⟩ m:=⟨h.c.dep1,h.c.dep2,h.c.opn,h.c.oln,h.c.iln,by show r.length≤4;omega⟩;split at e
  ·simp only[Except.ok.injEq]at e;subst e
   exact upm (hc.endValue.at (k+1) (.inr (.inr (.inr rfl))) ht hx) (by omega)
  ·rename_i hr
   simp only[Except.ok.injEq]at e;subst e;exact⟨hc.up (by omega),h.st,fun (h:s.st=1∨s.st=3)=>by omega,fun _=>hr,fun _=>ht,h.tk1.more,h.tk2,fun _ _=>hx,h.txk.more⟩
 rename_i h6
 split at e
 ·
  rename_i h7
  have hx:=h.tx (by omega) (by omega);unfold psTokOn at e;split at e
  ·rename_i t hn
   split at e
   ·cases e
   simp only[Except.ok.injEq]at e;subst e;have hk:=nxt_ok h.tk1 h.tk2 hn;have hc:=h.c.up (show m≤m+3 by omega);exact⟨⟨hc.dep1,hc.dep2,hc.opn,hc.oln,hc.iln,hc.wln⟩,h.st,fun (h:s.st=1∨s.st=3)=>by omega,fun (h:s.st=6)=>by omega,fun h=>absurd h7 h,hk.1,hk.2,fun _ _=>hx,h.txk.more⟩
  ·split at e
   ·cases e
   ·rename_i s1 h1
    obtain⟨h2,h3⟩:=psEndTok_ok h h7 h1;exact psOut_ok h2 (by omega) e
 rename_i h7
 split at e
 ·
  rename_i h89
  have ht:=h.tok h7;unfold psTextOn at e;split at e
  ·cases e
  ·rename_i t hn
   simp only[Except.ok.injEq]at e;subst e;have hk:=trNext_ok h.txk hn;have hc:=h.c.up (show m≤m+3 by omega);exact⟨⟨hc.dep1,hc.dep2,hc.opn,hc.oln,hc.iln,hc.wln⟩,h.st,h.o13,h.wrd,h.tok,h.tk1.more,h.tk2,fun (h1:s.st≠8) (h2:s.st≠9)=>by omega,hk⟩
  ·rename_i t hn
   split at e
   ·simp only[Except.ok.injEq]at e;subst e
    exact upm ((h.c.item ⟨4,0,0,t.made⟩ 4 s.word h.c.wln s.tok tr0).at (k+1) (.inr (.inr (.inl rfl))) ht rfl) (by omega)
   ·simp only[Except.ok.injEq]at e;subst e
    exact upm ((h.c.item ⟨4,0,0,t.made⟩ s.st s.word h.c.wln s.tok tr0).endValue.at (k+1) (.inr (.inr (.inr rfl))) ht rfl) (by omega)
 ·rename_i h89
  have:=h.st;exact upm (psOut_ok h (by omega) e) (by omega)
theorem psMore_ok {s:Ps} {m k:Nat} (h:PsOk s m k):PsOk (psMore s) m k:=⟨⟨h.c.dep1,h.c.dep2,h.c.opn,h.c.oln,h.c.iln,h.c.wln⟩,h.st,h.o13,h.wrd,h.tok,h.tk1,h.tk2,h.tx,h.txk⟩
theorem ps0_ok (d:Nat) (h1:1≤d) (h2:d≤1000):PsOk (ps0 d) 0 0:=by
 refine PsC.at (s:=ps0 d) ⟨h1,h2,?_,?_,?_,?_⟩ 0 (.inl rfl) rfl rfl
 ·intro i hi;cases hi
 ·exact Nat.le_refl _
 ·exact Nat.le_refl _
 ·exact Nat.zero_le _
end Go.Proofs.YtmkkibaacclhnaaGreatDoor
