/-
  A step of the walk, the part named Re. No theorem of the row.
-/
import Derived.Test.YtmkkibaacclhnaaGreatDoorRc
namespace Go.Proofs.YtmkkibaacclhnaaGreatDoor
open Go.RowKit
def After (d L:Nat) (its:List It) (o:List Nat) (R:Except (Nat×Nat) Ps):List UInt8→Prop
 |[]=>R=.ok (Z d L 5 its o [])∨∃s1,R=.ok s1∧s1.st=7∧s1.opn=o∧psEndTok s1=.ok (Z d L 5 its o [])
 |c::p=>R=psRun (Z d L 5 its o (c::p)) (c::p)
theorem After.of {d L:Nat} {its:List It} {o:List Nat} {R:Except (Nat×Nat) Ps} {p:List UInt8} (h:R=psRun (Z d L 5 its o p) p):After d L its o R p:=by
 cases p with
 |nil=>exact .inl h
 |cons c p=>exact h
def lateN (l:Bool):Nat:=if l=true then 6 else 7
def VRel (d L:Nat) (its:List It) (o:List Nat) (R:Except (Nat×Nat) Ps):RV→Prop
 |.ok _ new p=>After d L (bump (its++new) o) o R p
 |.wrong n p=>R=.error (n,L-p.length)
 |.ended l=>∃s1,R=.ok s1∧psEnd s1=([],lateN l)
def NRel (d L k:Nat) (A:List It) (o:List Nat) (R:Except (Nat×Nat) Ps):RV→Prop
 |.ok n new p=>R=psRun (Z d L 5 (bump (A++⟨k,n,0,[]⟩::new) o) o p) p
 |.wrong n p=>R=.error (n,L-p.length)
 |.ended l=>∃s1,R=.ok s1∧psEnd s1=([],lateN l)
theorem bump_at (A acc:List It) (k n:Nat) (o:List Nat):bump (A++⟨k,n,0,[]⟩::acc) (o++[A.length])=A++⟨k,n+1,0,[]⟩::acc:=by
 rw[bump_last]
 induction A with
 |nil=>rfl
 |cons a A ih=>
  simp only[List.cons_append,List.length_cons,List.modify_succ_cons];rw[ih]
theorem psEnd_open {s:Ps} (h:s.opn≠[]):psEnd s=([],7):=by
 unfold psEnd;rw[if_neg (fun hh=>h hh.2),if_neg (fun hh=>h hh.2)]
theorem psArr_at (d L st:Nat) (A acc:List It) (k n:Nat) (o:List Nat) (r:List UInt8):psArr (Z d L st (A++⟨k,n,0,[]⟩::acc) (o++[A.length]) r)=decide (k=5):=by
 unfold psArr
 show(match (o++[A.length]).getLast? with|none=>false|some i=>match (A++(⟨k,n,0,[]⟩:It)::acc)[i]? with|none=>false|some x=>decide (x.k=5))=_
 rw[List.getLast?_append];simp
theorem behind_run (d L k n:Nat) (A acc:List It) (o:List Nat) (e:UInt8) (hk:(k=5∧e=93)∨(k=6∧e=125)) (R:Except (Nat×Nat) Ps) (p:List UInt8) (hL:p.length≤L)
 (h:After d L (A++⟨k,n,0,[]⟩::acc) (o++[A.length]) R p):
 match skipB p with
 |[]=>∃s1,R=.ok s1∧psEnd s1=([],7)
 |c::q=>if c=e then R=psRun (Z d L 5 (bump (A++⟨k,n,0,[]⟩::acc) o) o q) q
  else if c=44 then R=psRun (Z d L (if k=5 then 0 else 2) (A++⟨k,n,0,[]⟩::acc) (o++[A.length]) q) q else R=.error (3,L-(c::q).length):=by
 cases p with
 |nil=>
  show∃s1,R=.ok s1∧psEnd s1=([],7)
  rcases h with h|⟨s1,h1,h2,h3,_⟩
  ·exact⟨_,h,psEnd_open (by show o++[A.length]≠[];simp)⟩
  ·exact⟨s1,h1,psEnd_open (by rw[h3];simp)⟩
 |cons c0 p0=>
  have h:R=psRun (Z d L 5 _ _ (c0::p0)) (c0::p0):=h;rw[z_skip d L 5 _ _ (by omega) _ hL]at h;have hsl:=(skipB_suf (c0::p0)).length_le;cases hx:skipB (c0::p0)with
  |nil=>
   rw[hx]at h;exact⟨_,h,psEnd_open (by show o++[A.length]≠[];simp)⟩
  |cons c q=>
   rw[hx]at h hsl;have hb:=skipB_head hx;simp only
   have ht:psTake (Z d L 5 (A++⟨k,n,0,[]⟩::acc) (o++[A.length]) (c::q)) c=psBehind (Z d L 5 (A++⟨k,n,0,[]⟩::acc) (o++[A.length]) (c::q)) c:=by
    rw[z_take (by omega) hb,psBetween];rw[if_neg (by show¬((5=1∧_)∨(5=3∧_));omega),if_neg (by show¬(5=0∨5=1);omega),if_neg (by show¬((5=2∨5=3)∧_);omega),if_neg (by show¬(5=4∧_);omega)];exact if_pos ⟨rfl,by show o++[A.length]≠[];simp⟩
   have ha:=psArr_at d L 5 A acc k n o (c::q);by_cases hc:c=e
   ·rw[if_pos hc,h]
    refine z_ok (by omega) ?_;rw[ht,psBehind,ha];rw[if_neg (by rcases hk with⟨_,he⟩|⟨_,he⟩<;>(rintro⟨_,h44⟩;rw[hc,he]at h44;exact absurd h44 (by decide))),if_neg (by rcases hk with⟨_,he⟩|⟨_,he⟩<;>(rintro⟨_,h44⟩;rw[hc,he]at h44;exact absurd h44 (by decide)))]
    rw[if_pos (by
     rcases hk with⟨h5,he⟩|⟨h6,he⟩
     ·exact .inl ⟨decide_eq_true h5,hc.trans he⟩
     ·exact .inr ⟨decide_eq_false (by omega),hc.trans he⟩)]
    unfold psEndInner psEndValue
    show Except.ok (Ps.mk _ _ _ _ _ _ _ _)=Except.ok (Ps.mk _ _ _ _ _ _ _ _)
    simp[Z]
   ·rw[if_neg hc]
    by_cases h44:c=44
    ·rw[if_pos h44,h]
     refine z_ok (by omega) ?_;rw[ht,psBehind,ha];by_cases h5:k=5
     ·rw[if_pos ⟨decide_eq_true h5,h44⟩,if_pos h5];rfl
     ·rw[if_neg (by rintro⟨h,_⟩;exact h5 (of_decide_eq_true h)),if_pos ⟨decide_eq_false h5,h44⟩,if_neg h5];rfl
    ·rw[if_neg h44,h]
     rw[run_err (n:=3) (by
      rw[ht,psBehind,ha,if_neg (fun h=>h44 h.2),if_neg (fun h=>h44 h.2),if_neg];rintro(⟨g1,g2⟩|⟨g1,g2⟩)
      ·have:=of_decide_eq_true g1
       rcases hk with⟨_,he⟩|⟨h6,_⟩
       ·exact hc (g2.trans he.symm)
       ·omega
      ·have:=of_decide_eq_false g1
       rcases hk with⟨h5,_⟩|⟨_,he⟩
       ·omega
       ·exact hc (g2.trans he.symm))]
     rfl
theorem psEnd_st {s:Ps} (h7:s.st≠7) (h5:s.st≠5):psEnd s=([],7):=by
 unfold psEnd;rw[if_neg (fun hh=>h7 hh.1),if_neg (fun hh=>h5 hh.1)]
theorem nxtTo_stK (t:Tk) (c:UInt8) (k:Nat):(nxtTo t c k).st=k:=by
 unfold nxtTo
 repeat' split
 all_goals simp_all
theorem begin_num {c:UInt8} (h:c=45∨isD c=true):∃t,nxt t0 c=some t∧tokLost t=false:=by
 have hb:beh 0 c≠0∧beh 0 c≤3:=by
  unfold beh;rcases h with rfl|h
  ·simp
  ·by_cases h45:c=45
   ·simp[h45]
   ·by_cases h48:c=48
    ·simp[h48]
    ·simp[h45,h48,h]
 refine⟨nxtTo t0 c (beh 0 c),?_,?_⟩
 ·unfold nxt
  rw[show t0.st=0 from rfl,if_neg hb.1]
 ·unfold tokLost
  rw[nxtTo_stK,decide_eq_false (by omega)];rfl
theorem begin_none {c:UInt8} (h:¬(c=45∨isD c=true)):nxt t0 c=none:=by
 have hb:beh 0 c=0:=by
  have h1:c≠45:=fun e=>h (.inl e)
  have h2:¬isD c=true:=fun e=>h (.inr e)
  have h3:c≠48:=fun e=>h2 (by rw[e];decide)
  unfold beh;simp[h1,h2,h3]
 unfold nxt;rw[show t0.st=0 from rfl,if_pos hb]
theorem num_ne {c x:UInt8} (h:c=45∨isD c=true) (hx:¬(x=45∨isD x=true)):c≠x:=fun e=>hx (e▸h)
theorem begin_take {d L st:Nat} {its:List It} {o:List Nat} {c:UInt8} {q:List UInt8} (hb:blank c=false) (hst:st=0∨(st=1∧c≠93)):psTake (Z d L st its o (c::q)) c=psBegin (Z d L st its o (c::q)) c:=by
 rw[z_take (by omega) hb,psBetween]
 have hno:¬((st=1∧c=93)∨(st=3∧c=125)):=by
  rintro(⟨h1,h2⟩|⟨h1,h2⟩)
  ·rcases hst with h|⟨_,h⟩
   ·omega
   ·exact h h2
  ·omega
 rw[if_neg (show¬(((Z d L st its o (c::q)).st=1∧c=93)∨((Z d L st its o (c::q)).st=3∧c=125))from hno)];exact if_pos (show st=0∨st=1 by omega)
theorem text_VRel (d L:Nat) (its:List It) (o:List Nat) (q:List UInt8) (hL:q.length≤L):VRel d L its o (psRun (Z d L 9 its o q) q) (textV q):=by
 have h:=zt_run d L 9 its o tr0 (.inr rfl) q hL;unfold textV;cases hx:trRun tr0 q with
 |ok s p=>rw[hx]at h;exact After.of h
 |wrong n p=>rw[hx]at h;exact h
 |ended=>rw[hx]at h;exact h
theorem word_VRel (d L k:Nat) (its:List It) (o:List Nat) (c:UInt8) (w q:List UInt8) (hw:w≠[]) (hL:(c::q).length≤L) (st:Nat)
 (ht:psTake (Z d L st its o (c::q)) c=.ok (ZW d L (its++[⟨k,0,0,[]⟩]) o w (c::q))):VRel d L its o (psRun (Z d L st its o (c::q)) (c::q)) (wordV k (c::w) (c::q)):=by
 have hm:psMore (ZW d L (its++[⟨k,0,0,[]⟩]) o w (c::q))=ZW d L (its++[⟨k,0,0,[]⟩]) o w q:=by
  show Ps.mk _ _ _ _ _ _ _ _=Ps.mk _ _ _ _ _ _ _ _
  congr 1;exact more_came hL
 have h:=zw_run d L (its++[⟨k,0,0,[]⟩]) o w hw q (by simp only[List.length_cons]at hL;omega);have e:psRun (Z d L st its o (c::q)) (c::q)=psRun (ZW d L (its++[⟨k,0,0,[]⟩]) o w q) q:=by rw[run_ok ht,hm]
 unfold wordV;rw[show wordGo (c::w) (c::q)=wordGo w q by rw[wordGo,if_neg (by simp)]];cases hx:wordGo w q with
 |ok a p=>rw[hx]at h;exact After.of (e.trans h)
 |wrong n p=>rw[hx]at h;exact e.trans h
 |ended=>
  rw[hx]at h;obtain⟨s1,h1,h2⟩:=h;exact⟨s1,e.trans h1,h2⟩
theorem num_VRel (d L inn:Nat) (its:List It) (o:List Nat) (c:UInt8) (q:List UInt8) (hL:(c::q).length≤L) (ho:o.length=inn) (st:Nat) (t:Tk) (hn:nxt t0 c=some t) (hl:tokLost t=false)
 (ht:psTake (Z d L st its o (c::q)) c=.ok (ZN d L its o t (c::q))):VRel d L its o (psRun (Z d L st its o (c::q)) (c::q)) (numOut inn (c::q)):=by
 have hm:psMore (ZN d L its o t (c::q))=ZN d L its o t q:=by
  show Ps.mk _ _ _ _ _ _ _ _=Ps.mk _ _ _ _ _ _ _ _
  congr 1;exact more_came hL
 have h:=zn_run d L its o t q (by simp only[List.length_cons]at hL;omega);have e:psRun (Z d L st its o (c::q)) (c::q)=psRun (ZN d L its o t q) q:=by rw[run_ok ht,hm]
 unfold numOut;rw[show tkRun t0 (c::q)=tkRun t q by rw[tkRun,hn];simp[hl]];cases hx:tkRun t q with
 |lost p=>rw[hx]at h;exact e.trans h
 |stop t' p=>
  rw[hx]at h;simp only at h ⊢;by_cases hv:(tokV t').2≠0
  ·rw[if_pos hv]at h ⊢
   exact e.trans h
  ·rw[if_neg hv]at h ⊢
   exact After.of (e.trans h)
 |ended t'=>
  rw[hx]at h;simp only at h ⊢;by_cases hv:(tokV t').2=0
  ·rw[if_pos hv]
   exact .inr ⟨_,e.trans h,rfl,rfl,zn_end d L its o t' [] hv⟩
  ·rw[if_neg hv]
   refine⟨_,e.trans h,?_⟩;unfold psEnd;by_cases h0:o=[]
   ·rw[if_pos ⟨rfl,h0⟩]
    have he:psEndTok (ZN d L its o t' [])=.error (tokV t').2:=by
     unfold psEndTok;exact if_pos hv
    rw[he];have hi:inn=0:=by rw[←ho,h0];rfl
    simp only;by_cases h6:(tokV t').2=6
    ·rw[if_pos h6,decide_eq_true ⟨h6,hi⟩];rfl
    ·rw[if_neg h6,decide_eq_false (fun hh=>h6 hh.1)];rfl
   ·rw[if_neg (fun hh=>h0 hh.2),if_neg (fun hh=>h0 hh.2),decide_eq_false (by
     rintro⟨_,hi⟩;rw[←ho]at hi
     exact h0 (List.eq_nil_of_length_eq_zero hi))]
    rfl
theorem nest_VRel {d L k:Nat} {its:List It} {o:List Nat} {R:Except (Nat×Nat) Ps} {x:RV} (h:NRel d L k its o R x):VRel d L its o R (nestV k x):=by
 cases x with
 |ok n new p=>exact After.of h
 |wrong n p=>exact h
 |ended l=>exact h
structure Ho (d L f:Nat):Prop where
 val:∀inn r its o st,need .val r≤f→r.length≤L→o.length=inn→(st=0∨(st=1∧∀q,skipB r≠93::q))→VRel d L its o (psRun (Z d L st its o r) r) (rGo d f inn .val r)
 vals:∀inn r A o,need .vals r≤f→r.length≤L→o.length+1=inn→NRel d L 5 A o (psRun (Z d L 1 (A++[⟨5,0,0,[]⟩]) (o++[A.length]) r) r) (rGo d f inn .vals r)
 valsGo:∀inn r A o n acc st,need (.valsGo (n+1) acc) r≤f→r.length≤L→o.length+1=inn→(st=0∨(st=1∧∀q,skipB r≠93::q))→NRel d L 5 A o (psRun (Z d L st (A++⟨5,n,0,[]⟩::acc) (o++[A.length]) r) r) (rGo d f inn (.valsGo (n+1) acc) r)
 pairs:∀inn r A o,need .pairs r≤f→r.length≤L→o.length+1=inn→NRel d L 6 A o (psRun (Z d L 3 (A++[⟨6,0,0,[]⟩]) (o++[A.length]) r) r) (rGo d f inn .pairs r)
 pairsGo:∀inn r A o n acc st,need (.pairsGo (n+1) acc) r≤f→r.length≤L→o.length+1=inn→(st=2∨(st=3∧∀q,skipB r≠125::q))→NRel d L 6 A o (psRun (Z d L st (A++⟨6,n,0,[]⟩::acc) (o++[A.length]) r) r) (rGo d f inn (.pairsGo (n+1) acc) r)
 pair:∀inn r its o st,need .pair r≤f→r.length≤L→o.length=inn→(st=2∨(st=3∧∀q,skipB r≠125::q))→VRel d L its o (psRun (Z d L st its o r) r) (rGo d f inn .pair r)
theorem ho_val {d L f:Nat} (h:Ho d L f) (inn:Nat) (r:List UInt8) (its:List It) (o:List Nat) (st:Nat) (hf:need .val r≤f+1) (hL:r.length≤L) (ho:o.length=inn) (hst:st=0∨(st=1∧∀q,skipB r≠93::q)):
 VRel d L its o (psRun (Z d L st its o r) r) (rGo d (f+1) inn .val r):=by
 have hs:=(skipB_suf r).length_le;rw[z_skip d L st its o (by omega) r hL,rGo.eq_def];simp only;cases hx:skipB r with
 |nil=>exact⟨_,rfl,psEnd_st (by show st≠7;omega) (by show st≠5;omega)⟩
 |cons c q=>
  rw[hx]at hs;have hLc:(c::q).length≤L:=by omega
  have hq:q.length+1≤r.length:=hs;have hb:=skipB_head hx
  have hst':st=0∨(st=1∧c≠93):=by
   rcases hst with h|⟨h1,h2⟩
   ·exact .inl h
   ·exact .inr ⟨h1,fun e=>h2 q (by rw[hx,e])⟩
  have ht:=begin_take (d:=d) (L:=L) (its:=its) (o:=o) (q:=q) hb hst';unfold need at hf;simp only at hf ⊢;by_cases h34:c=34
  ·rw[if_pos h34]
   subst h34
   have h1:psTake (Z d L st its o (34::q)) 34=.ok (Z d L 9 its o (34::q)):=by
    rw[ht,psBegin,if_neg (by decide),if_neg (by decide),if_neg (by decide),if_pos rfl];rfl
   rw[z_ok hLc h1];exact text_VRel d L its o q (by omega)
  rw[if_neg h34];by_cases h91:c=91
  ·rw[if_pos h91]
   subst h91
   have hn:psTake (Z d L st its o (91::q)) 91=psNest (Z d L st its o (91::q)) 5 1:=by
    rw[ht,psBegin,if_neg (by decide),if_neg (by decide),if_neg (by decide),if_neg (by decide),if_pos rfl]
   by_cases hd:inn=d
   ·rw[if_pos hd]
    show psRun _ _=_
    rw[run_err (n:=4) (by rw[hn,psNest];exact if_pos (show o.length=d by omega))];rfl
   ·rw[if_neg hd]
    have h1:psTake (Z d L st its o (91::q)) 91=.ok (Z d L 1 (its++[⟨5,0,0,[]⟩]) (o++[its.length]) (91::q)):=by
     rw[hn,psNest];exact if_neg (show¬o.length=d by omega)
    rw[z_ok hLc h1];exact nest_VRel (h.vals (inn+1) q its o (by unfold need;simp only;omega) (by omega) (by omega))
  rw[if_neg h91];by_cases h123:c=123
  ·rw[if_pos h123]
   subst h123
   have hn:psTake (Z d L st its o (123::q)) 123=psNest (Z d L st its o (123::q)) 6 3:=by
    rw[ht,psBegin,if_neg (by decide),if_neg (by decide),if_neg (by decide),if_neg (by decide),if_neg (by decide),if_pos rfl]
   by_cases hd:inn=d
   ·rw[if_pos hd]
    show psRun _ _=_
    rw[run_err (n:=4) (by rw[hn,psNest];exact if_pos (show o.length=d by omega))];rfl
   ·rw[if_neg hd]
    have h1:psTake (Z d L st its o (123::q)) 123=.ok (Z d L 3 (its++[⟨6,0,0,[]⟩]) (o++[its.length]) (123::q)):=by
     rw[hn,psNest];exact if_neg (show¬o.length=d by omega)
    rw[z_ok hLc h1];exact nest_VRel (h.pairs (inn+1) q its o (by unfold need;simp only;omega) (by omega) (by omega))
  rw[if_neg h123];by_cases hnum:c=45∨isD c=true
  ·rw[if_pos hnum]
   obtain⟨t,hn,hl⟩:=begin_num hnum;refine num_VRel d L inn its o c q hLc ho st t hn hl ?_;rw[ht,psBegin,if_neg (num_ne hnum (by decide)),if_neg (num_ne hnum (by decide)),if_neg (num_ne hnum (by decide)),if_neg h34,if_neg h91,if_neg h123]
   show(match nxt t0 c with|none=>_|some t=>_)=_
   rw[hn];rfl
  rw[if_neg hnum];by_cases h110:c=110
  ·rw[if_pos h110]
   subst h110;exact word_VRel d L 0 its o 110 [117,108,108] q (by simp) hLc st (by rw[ht,psBegin,if_pos rfl];rfl)
  rw[if_neg h110];by_cases h102:c=102
  ·rw[if_pos h102]
   subst h102;exact word_VRel d L 1 its o 102 [97,108,115,101] q (by simp) hLc st (by rw[ht,psBegin,if_neg (by decide),if_pos rfl];rfl)
  rw[if_neg h102];by_cases h116:c=116
  ·rw[if_pos h116]
   subst h116;exact word_VRel d L 2 its o 116 [114,117,101] q (by simp) hLc st (by rw[ht,psBegin,if_neg (by decide),if_neg (by decide),if_pos rfl];rfl)
  rw[if_neg h116]
  show psRun _ _=_
  rw[run_err (n:=3) (by
   rw[ht,psBegin,if_neg h110,if_neg h102,if_neg h116,if_neg h34,if_neg h91,if_neg h123]
   show(match nxt t0 c with|none=>_|some t=>_)=_
   rw[begin_none hnum])]
  rfl
theorem inner_take {d L k st:Nat} {A:List It} {o:List Nat} {c:UInt8} {q:List UInt8} (hst:(st=1∧c=93)∨(st=3∧c=125)):
 psTake (Z d L st (A++[⟨k,0,0,[]⟩]) (o++[A.length]) (c::q)) c=.ok (Z d L 5 (bump (A++[⟨k,0,0,[]⟩]) o) o (c::q)):=by
 have hb:blank c=false:=by rcases hst with⟨_,rfl⟩|⟨_,rfl⟩<;>decide
 rw[z_take (by omega) hb,psBetween];rw[if_pos (show((Z d L st (A++[⟨k,0,0,[]⟩]) (o++[A.length]) (c::q)).st=1∧c=93)∨((Z d L st (A++[⟨k,0,0,[]⟩]) (o++[A.length]) (c::q)).st=3∧c=125)from hst)];unfold psEndInner psEndValue
 show Except.ok (Ps.mk _ _ _ _ _ _ _ _)=Except.ok (Ps.mk _ _ _ _ _ _ _ _)
 simp[Z]
theorem ho_vals {d L f:Nat} (h:Ho d L f) (inn:Nat) (r:List UInt8) (A:List It) (o:List Nat) (hf:need .vals r≤f+1) (hL:r.length≤L) (ho:o.length+1=inn):
 NRel d L 5 A o (psRun (Z d L 1 (A++[⟨5,0,0,[]⟩]) (o++[A.length]) r) r) (rGo d (f+1) inn .vals r):=by
 have hs:=(skipB_suf r).length_le;rw[z_skip d L 1 _ _ (by omega) r hL,rGo.eq_def];simp only;cases hx:skipB r with
 |nil=>exact⟨_,rfl,psEnd_st (by show(1:Nat)≠7;decide) (by show(1:Nat)≠5;decide)⟩
 |cons c q=>
  rw[hx]at hs;have hq:q.length+1≤r.length:=hs;unfold need at hf;simp only at hf ⊢;by_cases hc:c=93
  ·rw[if_pos hc]
   exact z_ok (by omega) (inner_take (.inl ⟨rfl,hc⟩))
  ·rw[if_neg hc]
   have hh:skipB (c::q)=c::q:=by rw[skipB,skipB_head hx];rfl
   exact h.valsGo inn (c::q) A o 0 [] 1 (by unfold need;simp only[List.length_cons];omega) (by omega) ho (.inr ⟨rfl,fun q' e=>by rw[hh]at e;cases e;exact hc rfl⟩)
theorem ho_pairs {d L f:Nat} (h:Ho d L f) (inn:Nat) (r:List UInt8) (A:List It) (o:List Nat) (hf:need .pairs r≤f+1) (hL:r.length≤L) (ho:o.length+1=inn):
 NRel d L 6 A o (psRun (Z d L 3 (A++[⟨6,0,0,[]⟩]) (o++[A.length]) r) r) (rGo d (f+1) inn .pairs r):=by
 have hs:=(skipB_suf r).length_le;rw[z_skip d L 3 _ _ (by omega) r hL,rGo.eq_def];simp only;cases hx:skipB r with
 |nil=>exact⟨_,rfl,psEnd_st (by show(3:Nat)≠7;decide) (by show(3:Nat)≠5;decide)⟩
 |cons c q=>
  rw[hx]at hs;have hq:q.length+1≤r.length:=hs;unfold need at hf;simp only at hf ⊢;by_cases hc:c=125
  ·rw[if_pos hc]
   exact z_ok (by omega) (inner_take (.inr ⟨rfl,hc⟩))
  ·rw[if_neg hc]
   have hh:skipB (c::q)=c::q:=by rw[skipB,skipB_head hx];rfl
   exact h.pairsGo inn (c::q) A o 0 [] 3 (by unfold need;simp only[List.length_cons];omega) (by omega) ho (.inr ⟨rfl,fun q' e=>by rw[hh]at e;cases e;exact hc rfl⟩)
theorem ho_valsGo {d L f:Nat} (h:Ho d L f) (inn:Nat) (r:List UInt8) (A:List It) (o:List Nat) (n:Nat) (acc:List It) (st:Nat) (hf:need (.valsGo (n+1) acc) r≤f+1) (hL:r.length≤L) (ho:o.length+1=inn) (hst:st=0∨(st=1∧∀q,skipB r≠93::q)):
 NRel d L 5 A o (psRun (Z d L st (A++⟨5,n,0,[]⟩::acc) (o++[A.length]) r) r) (rGo d (f+1) inn (.valsGo (n+1) acc) r):=by
 unfold need at hf;simp only at hf;have hv:=h.val inn r (A++⟨5,n,0,[]⟩::acc) (o++[A.length]) st (by unfold need;simp only;omega) hL (by simp;omega) hst;have hsuf:=rGo_suf d f inn .val r;rw[rGo.eq_def];simp only;cases hy:rGo d f inn .val r with
 |wrong e q=>rw[hy]at hv;exact hv
 |ended l=>rw[hy]at hv;exact hv
 |ok a its p=>
  rw[hy]at hv hsuf;have hpl:=List.IsSuffix.length_le hsuf;have hv:After d L _ _ _ p:=hv;rw[List.append_assoc,List.cons_append,bump_at]at hv;have hb:=behind_run d L 5 (n+1) A (acc++its) o 93 (.inl ⟨rfl,rfl⟩) _ p (by omega) hv;have hs:=(skipB_suf p).length_le;simp only;cases hx:skipB p with
  |nil=>rw[hx]at hb;exact hb
  |cons c q=>
   rw[hx]at hb hs;simp only at hb ⊢;by_cases hc:c=93
   ·rw[if_pos hc]at hb ⊢
    exact hb
   ·rw[if_neg hc]at hb ⊢
    by_cases h44:c=44
    ·rw[if_pos h44]at hb ⊢
     rw[hb];have hq:q.length+1≤p.length:=hs;exact h.valsGo inn q A o (n+1) (acc++its) 0 (by unfold need;simp only;omega) (by omega) ho (.inl rfl)
    ·rw[if_neg h44]at hb ⊢
     exact hb
theorem ho_pairsGo {d L f:Nat} (h:Ho d L f) (inn:Nat) (r:List UInt8) (A:List It) (o:List Nat) (n:Nat) (acc:List It) (st:Nat) (hf:need (.pairsGo (n+1) acc) r≤f+1) (hL:r.length≤L) (ho:o.length+1=inn) (hst:st=2∨(st=3∧∀q,skipB r≠125::q)):
 NRel d L 6 A o (psRun (Z d L st (A++⟨6,n,0,[]⟩::acc) (o++[A.length]) r) r) (rGo d (f+1) inn (.pairsGo (n+1) acc) r):=by
 unfold need at hf;simp only at hf;have hv:=h.pair inn r (A++⟨6,n,0,[]⟩::acc) (o++[A.length]) st (by unfold need;simp only;omega) hL (by simp;omega) hst;have hsuf:=rGo_suf d f inn .pair r;rw[rGo.eq_def];simp only;cases hy:rGo d f inn .pair r with
 |wrong e q=>rw[hy]at hv;exact hv
 |ended l=>rw[hy]at hv;exact hv
 |ok a its p=>
  rw[hy]at hv hsuf;have hpl:=List.IsSuffix.length_le hsuf;have hv:After d L _ _ _ p:=hv;rw[List.append_assoc,List.cons_append,bump_at]at hv;have hb:=behind_run d L 6 (n+1) A (acc++its) o 125 (.inr ⟨rfl,rfl⟩) _ p (by omega) hv;have hs:=(skipB_suf p).length_le;simp only;cases hx:skipB p with
  |nil=>rw[hx]at hb;exact hb
  |cons c q=>
   rw[hx]at hb hs;simp only at hb ⊢;by_cases hc:c=125
   ·rw[if_pos hc]at hb ⊢
    exact hb
   ·rw[if_neg hc]at hb ⊢
    by_cases h44:c=44
    ·rw[if_pos h44]at hb ⊢
     rw[hb];have hq:q.length+1≤p.length:=hs;exact h.pairsGo inn q A o (n+1) (acc++its) 2 (by unfold need;simp only;omega) (by omega) ho (.inl rfl)
    ·rw[if_neg h44]at hb ⊢
     exact hb
theorem ho_pair {d L f:Nat} (h:Ho d L f) (inn:Nat) (r:List UInt8) (its:List It) (o:List Nat) (st:Nat) (hf:need .pair r≤f+1) (hL:r.length≤L) (ho:o.length=inn) (hst:st=2∨(st=3∧∀q,skipB r≠125::q)):
 VRel d L its o (psRun (Z d L st its o r) r) (rGo d (f+1) inn .pair r):=by
 have hs:=(skipB_suf r).length_le;unfold need at hf;simp only at hf;rw[z_skip d L st its o (by omega) r hL,rGo.eq_def];simp only;cases hx:skipB r with
 |nil=>exact⟨_,rfl,psEnd_st (by show st≠7;omega) (by show st≠5;omega)⟩
 |cons c q=>
  rw[hx]at hs;have hq:q.length+1≤r.length:=hs;have hLc:(c::q).length≤L:=by omega
  have hb:=skipB_head hx
  have hno:¬((st=1∧c=93)∨(st=3∧c=125)):=by
   rintro(⟨h1,h2⟩|⟨h1,h2⟩)
   ·omega
   ·rcases hst with h|⟨_,h⟩
    ·omega
    ·exact h q (by rw[hx,h2])
  have ht:psTake (Z d L st its o (c::q)) c=if c=34 then .ok (psSt (Z d L st its o (c::q)) 8)else .error 3:=by
   rw[z_take (by omega) hb,psBetween];rw[if_neg (show¬(((Z d L st its o (c::q)).st=1∧c=93)∨((Z d L st its o (c::q)).st=3∧c=125))from hno),if_neg (by show¬(st=0∨st=1);omega)];by_cases h34:c=34
   ·rw[if_pos h34]
    exact if_pos ⟨show st=2∨st=3 by omega,h34⟩
   ·rw[if_neg h34,if_neg (fun hh=>h34 hh.2),if_neg (by show¬(st=4∧_);omega),if_neg (by show¬(st=5∧_);omega)]
  simp only;by_cases h34:c=34
  ·subst h34
   rw[if_neg (by simp),z_ok (st':=8) (its':=its) (o':=o) hLc (by rw[ht,if_pos rfl];rfl)];have hz:=zt_run d L 8 its o tr0 (.inl rfl) q (by omega);have hsuf:=trRun_suf tr0 q;cases hy:trRun tr0 q with
   |wrong e p=>rw[hy]at hz;exact hz
   |ended=>rw[hy]at hz;exact hz
   |ok s p=>
    rw[hy]at hz hsuf;have hpl:=List.IsSuffix.length_le hsuf;have hz:psRun (Z d L 8 its o q) q=psRun (Z d L 4 (its++[⟨4,0,0,s⟩]) o p) p:=hz;rw[hz,z_skip d L 4 _ _ (by omega) p (by omega)];have hs2:=(skipB_suf p).length_le;simp only;cases hw:skipB p with
    |nil=>exact⟨_,rfl,psEnd_st (by show(4:Nat)≠7;decide) (by show(4:Nat)≠5;decide)⟩
    |cons c2 q2=>
     rw[hw]at hs2;have hq2:q2.length+1≤p.length:=hs2;have hb2:=skipB_head hw
     have ht2:psTake (Z d L 4 (its++[⟨4,0,0,s⟩]) o (c2::q2)) c2=if c2=58 then .ok (psSt (Z d L 4 (its++[⟨4,0,0,s⟩]) o (c2::q2)) 0)else .error 3:=by
      rw[z_take (by omega) hb2,psBetween];rw[if_neg (by show¬((4=1∧_)∨(4=3∧_));omega),if_neg (by show¬(4=0∨4=1);omega),if_neg (by show¬((4=2∨4=3)∧_);omega)];by_cases h58:c2=58
      ·rw[if_pos h58]
       exact if_pos ⟨rfl,h58⟩
      ·rw[if_neg h58,if_neg (fun hh=>h58 hh.2),if_neg (by show¬(4=5∧_);omega)]
     simp only;by_cases h58:c2=58
     ·rw[if_neg (by simp[h58]),z_ok (st':=0) (its':=its++[⟨4,0,0,s⟩]) (o':=o) (by omega) (by rw[ht2,if_pos h58];rfl)]
      have hv:=h.val inn q2 (its++[⟨4,0,0,s⟩]) o 0 (by unfold need;simp only;omega) (by omega) ho (.inl rfl);cases hg:rGo d f inn .val q2 with
      |wrong e p2=>rw[hg]at hv;exact hv
      |ended l=>rw[hg]at hv;exact hv
      |ok a new p2=>
       rw[hg]at hv;have hv:After d L (bump (its++[⟨4,0,0,s⟩]++new) o) o _ p2:=hv;rw[List.append_assoc]at hv;exact hv
     ·rw[if_pos h58]
      show psRun _ _=_
      rw[run_err (n:=3) (by rw[ht2,if_neg h58])];rfl
  ·rw[if_pos h34]
   show psRun _ _=_
   rw[run_err (n:=3) (by rw[ht,if_neg h34])];rfl
theorem ho_all (d L f:Nat):Ho d L f:=by
 induction f with
 |zero=>
  have hz:∀m r,¬need m r≤0:=by
   intro m r;unfold need;cases m<;>simp
  exact⟨fun _ _ _ _ _ h=>absurd h (hz _ _),fun _ _ _ _ h=>absurd h (hz _ _),fun _ _ _ _ _ _ _ h=>absurd h (hz _ _),fun _ _ _ _ h=>absurd h (hz _ _),fun _ _ _ _ _ _ _ h=>absurd h (hz _ _),fun _ _ _ _ _ h=>absurd h (hz _ _)⟩
 |succ f ih=>exact⟨ho_val ih,ho_vals ih,ho_valsGo ih,ho_pairs ih,ho_pairsGo ih,ho_pair ih⟩
noncomputable def readV (d:Nat) (l:List UInt8):RV:=match rGo d (4*l.length+1) 0 .val l with
 |.wrong n p=>.wrong n p
 |.ended late=>.ended late
 |.ok a its p=>match skipB p with
  |[]=>.ok a its []
  |c::q=>.wrong 3 (c::q)
theorem z_start (d:Nat) (l:List UInt8):Z d l.length 0 [] [] l=ps0 d:=by
 unfold Z ps0;rw[Nat.sub_self]
theorem read_run (d:Nat) (l:List UInt8):match readV d l with
 |.ok _ its _=>errOf (psRun (ps0 d) l)=0∧psFin (psRun (ps0 d) l)=(its,0,l.length)
 |.wrong n p=>psRun (ps0 d) l=.error (n,l.length-p.length)
 |.ended late=>errOf (psRun (ps0 d) l)=0∧psFin (psRun (ps0 d) l)=([],lateN late,l.length):=by
 have h:=(ho_all d l.length (4*l.length+1)).val 0 l [] [] 0 (Nat.le_refl _) (Nat.le_refl _) rfl (.inl rfl);rw[z_start]at h;have hsuf:=rGo_suf d (4*l.length+1) 0 .val l;unfold readV
 have fin:∀s its e,psRun (ps0 d) l=.ok s→psEnd s=(its,e)→errOf (psRun (ps0 d) l)=0∧psFin (psRun (ps0 d) l)=(its,e,l.length):=by
  intro s its e hr he;have hc:=psRun_came hr;rw[hr];refine⟨rfl,?_⟩
  show((psEnd s).1,(psEnd s).2,s.came)=_
  rw[he,hc]
  show(its,e,0+l.length)=_
  rw[Nat.zero_add]
 have e5:∀its L,psEnd (Z d L 5 its [] [])=(its,0):=by
  intro its L;unfold psEnd;rw[if_neg (by rintro⟨h,_⟩;exact absurd h (show¬(5:Nat)=7 by decide))];exact if_pos ⟨rfl,rfl⟩
 cases hy:rGo d (4*l.length+1) 0 .val l with
 |wrong n p=>rw[hy]at h;exact h
 |ended late=>
  rw[hy]at h;obtain⟨s1,h1,h2⟩:=h;exact fin s1 [] _ h1 h2
 |ok a its p=>
  rw[hy]at h hsuf;have hpl:=List.IsSuffix.length_le hsuf;have h:After d l.length its [] (psRun (ps0 d) l) p:=h;simp only;cases p with
  |nil=>
   show errOf _=0∧_
   rcases h with h|⟨s1,h1,h2,h3,h4⟩
   ·exact fin _ its 0 h (e5 its _)
   ·refine fin s1 its 0 h1 ?_
    unfold psEnd;rw[if_pos ⟨h2,h3⟩,h4];rfl
  |cons c0 p0=>
   have h:psRun (ps0 d) l=psRun (Z d l.length 5 its [] (c0::p0)) (c0::p0):=h;rw[z_skip d l.length 5 its [] (by omega) _ hpl]at h;have hs:=(skipB_suf (c0::p0)).length_le;cases hx:skipB (c0::p0)with
   |nil=>
    rw[hx]at h;exact fin _ its 0 h (e5 its _)
   |cons c q=>
    rw[hx]at h hs;have hb:=skipB_head hx;simp only
    rw[h,run_err (n:=3) (by
     rw[z_take (by omega) hb,psBetween];rw[if_neg (by show¬((5=1∧_)∨(5=3∧_));omega),if_neg (by show¬(5=0∨5=1);omega),if_neg (by show¬((5=2∨5=3)∧_);omega),if_neg (by show¬(5=4∧_);omega)]
     exact if_neg (fun hh=>hh.2 rfl))]
    rfl
end Go.Proofs.YtmkkibaacclhnaaGreatDoor
