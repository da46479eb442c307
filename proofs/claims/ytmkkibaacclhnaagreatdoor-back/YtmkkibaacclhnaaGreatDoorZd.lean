/-
  A step of the walk, the part named Zd. No theorem of the row.
-/
import Derived.Test.YtmkkibaacclhnaaGreatDoorYa
import Derived.Test.YtmkkibaacclhnaaGreatDoorWu
import Derived.Test.YtmkkibaacclhnaaGreatDoorWy
import Derived.Test.YtmkkibaacclhnaaGreatDoorRe
import Derived.Test.YtmkkibaacclhnaaGreatDoorPd
namespace Go.Proofs.YtmkkibaacclhnaaGreatDoor
open Go.RowKit
theorem char_enc {x:Nat} (h1:128≤x) (h:x<55296∨(57344≤x∧x≤1114111)) (q:List UInt8):charGo [] (encR x++q)=.ok (encR x) q:=by
 unfold encR;rw[if_neg (by omega)];split
 ·have e1:=u8_lt (n:=192+x/64) (by omega)
  have e2:=u8_lt (n:=128+x % 64) (by omega);obtain⟨b1,b2⟩:=beg2' (c:=UInt8.ofNat (192+x/64)) (d:=UInt8.ofNat (128+x % 64)) (by omega) (by omega) (by omega);generalize UInt8.ofNat (192+x/64)=c at*;generalize UInt8.ofNat (128+x % 64)=d at*
  show charGo [] (c::d::q)=.ok [c,d] q
  rw[charGo_cons,List.nil_append,b1,if_neg (by omega),if_neg (by simp),charGo_cons,show[c]++[d]=[c,d]from rfl,b2,if_neg (by omega),if_pos (by simp)]
 ·split
  ·have e1:=u8_lt (n:=224+x/4096) (by omega)
   have e2:=u8_lt (n:=128+x/64 % 64) (by omega);have e3:=u8_lt (n:=128+x % 64) (by omega);obtain⟨b1,b3⟩:=beg3' (c:=UInt8.ofNat (224+x/4096)) (d:=UInt8.ofNat (128+x/64 % 64)) (e:=UInt8.ofNat (128+x % 64)) (by omega) (by omega) (by omega) x (by omega) (by omega) (by omega);generalize UInt8.ofNat (224+x/4096)=c at*;generalize UInt8.ofNat (128+x/64 % 64)=d at*;generalize UInt8.ofNat (128+x % 64)=e at*
   have b2:beginsV [c,d]=3:=by
    obtain⟨l1,l2,l3⟩:=loB_is c.toNat;obtain⟨g1,g2,g3⟩:=hiB_is c.toNat;have:=(beg_second c.toNat d (by omega)).1 (by omega);rw[lackB,if_neg (by omega),if_pos (by omega)]at this;exact this
   show charGo [] (c::d::e::q)=.ok [c,d,e] q
   rw[charGo_cons,List.nil_append,b1,if_neg (by omega),if_neg (by simp),charGo_cons,show[c]++[d]=[c,d]from rfl,b2,if_neg (by omega),if_neg (by simp),charGo_cons,show[c,d]++[e]=[c,d,e]from rfl,b3,if_neg (by omega),if_pos (by simp)]
  ·have e1:=u8_lt (n:=240+x/262144) (by omega)
   have e2:=u8_lt (n:=128+x/4096 % 64) (by omega);have e3:=u8_lt (n:=128+x/64 % 64) (by omega);have e4:=u8_lt (n:=128+x % 64) (by omega);obtain⟨b1,b4⟩:=beg4' (c:=UInt8.ofNat (240+x/262144)) (d:=UInt8.ofNat (128+x/4096 % 64)) (e:=UInt8.ofNat (128+x/64 % 64)) (g:=UInt8.ofNat (128+x % 64)) (by omega) (by omega) (by omega) (by omega) x (by omega) (by omega) (by omega);generalize UInt8.ofNat (240+x/262144)=c at*;generalize UInt8.ofNat (128+x/4096 % 64)=d at*;generalize UInt8.ofNat (128+x/64 % 64)=e at*;generalize UInt8.ofNat (128+x % 64)=g at*;obtain⟨l1,l2,l3⟩:=loB_is c.toNat;obtain⟨g1,g2,g3⟩:=hiB_is c.toNat;have hd:loB c.toNat≤d.toNat∧d.toNat≤hiB c.toNat:=by omega
   have b2:beginsV [c,d]=4:=by
    have:=(beg_second c.toNat d (by omega)).1 hd;rw[lackB,if_neg (by omega),if_neg (by omega)]at this;exact this
   have b3:beginsV [c,d,e]=4:=by
    have:=(beg_third c.toNat d e (by omega) hd).1 (by omega);rw[lackB,if_neg (by omega),if_neg (by omega)]at this;exact this
   show charGo [] (c::d::e::g::q)=.ok [c,d,e,g] q
   rw[charGo_cons,List.nil_append,b1,if_neg (by omega),if_neg (by simp),charGo_cons,show[c]++[d]=[c,d]from rfl,b2,if_neg (by omega),if_neg (by simp),charGo_cons,show[c,d]++[e]=[c,d,e]from rfl,b3,if_neg (by omega),if_neg (by simp),charGo_cons,show[c,d,e]++[g]=[c,d,e,g]from rfl,b4,if_neg (by omega),if_pos (by simp)]
theorem hexV_hexB {k:Nat} (h:k<16):hexV (hexB k)=some k:=by
 have:∀k:Fin 16,hexV (hexB k.1)=some k.1:=by decide
 exact this ⟨k,h⟩
theorem unit_ctrl {m:Nat} (h:m<32) (q:List UInt8):unitGo false 4 0 (48::48::hexB (m/16)::hexB (m % 16)::q)=.ok m q:=by
 have h0:hexV 48=some 0:=by decide
 have h1:=hexV_hexB (k:=m/16) (by omega);have h2:=hexV_hexB (k:=m % 16) (by omega);rw[unitGo,h0];simp only;rw[if_neg (by simp),if_neg (by simp),unitGo,h0];simp only;rw[if_neg (by simp),if_neg (by omega),unitGo,h1];simp only;rw[if_neg (by simp),if_neg (by simp),unitGo,h2];simp only;rw[if_neg (by simp),if_neg (by simp),unitGo];congr 1;omega
theorem esc_one {out:List UInt8} {t:Tr} (hT:Tx0 out t) {y c:UInt8} (h:escV y=some c) (q:List UInt8):∃t',Tx0 (out++[c]) t'∧trRun t (92::y::q)=trRun t' q:=by
 have:=esc_run out t hT (y::q);rw[escOut,h]at this;exact this
theorem u8_is {c:UInt8} {n:Nat} (h:c.toNat=n):c=UInt8.ofNat n:=by rw[←h];simp
theorem quote_one {out:List UInt8} {t:Tr} (hT:Tx0 out t) {c:UInt8} (hc:c.toNat<128) (q:List UInt8):∃t',Tx0 (out++[c]) t'∧trRun t (quoteB c++q)=trRun t' q:=by
 unfold quoteB;split
 ·rename_i h
  refine esc_one hT ?_ q;rcases h with h|h
  ·rw[u8_is h];decide
  ·rw[u8_is h];decide
 rename_i n1
 split
 ·rename_i h
  obtain rfl:c=8:=u8_is h;exact esc_one hT (by decide) q
 split
 ·rename_i h
  obtain rfl:c=9:=u8_is h;exact esc_one hT (by decide) q
 split
 ·rename_i h
  obtain rfl:c=10:=u8_is h;exact esc_one hT (by decide) q
 split
 ·rename_i h
  obtain rfl:c=12:=u8_is h;exact esc_one hT (by decide) q
 split
 ·rename_i h
  obtain rfl:c=13:=u8_is h;exact esc_one hT (by decide) q
 split
 ·rename_i h
  have hr:=esc_run out t hT (117::48::48::hexB (c.toNat/16)::hexB (c.toNat % 16)::q);rw[escOut,escV_117]at hr;simp only at hr;rw[if_neg (by simp),unit_ctrl h]at hr;simp only at hr;rw[if_pos (by omega)]at hr;simp only at hr;have he:encR c.toNat=[c]:=by unfold encR;rw[if_pos hc,←u8_is rfl]
  rw[he]at hr;exact hr
 ·rename_i h
  obtain⟨hst,hm,hh⟩:=hT;refine⟨⟨t.st,t.made++[c],t.lack,t.lo,t.hi,t.dg,t.code,t.high⟩,⟨hst,by show t.made++[c]=_;rw[hm],hh⟩,?_⟩;refine trRun_ok ?_;rw[trNext0 hst,trChar,if_neg (by rintro rfl;exact n1 (.inr rfl)),if_neg (by omega),if_neg (by rintro rfl;exact n1 (.inl rfl)),if_neg h,if_pos hc]
theorem text_endB {out:List UInt8} {t:Tr} (hT:Tx0 out t) (r:List UInt8):trRun t (34::r)=.ok out r:=by
 obtain⟨hst,hm,hh⟩:=hT;rw[trRun,trNext0 hst,trChar,if_neg (by decide),if_neg (by omega),if_pos rfl];simp only;rw[hm]
theorem quote_run (n:Nat):∀(s out:List UInt8) (t:Tr) (r:List UInt8),s.length≤n→uGo n s=true→Tx0 out t→trRun t (s.flatMap quoteB++34::r)=.ok (out++s) r:=by
 induction n with
 |zero=>
  intro s out t r hl _ hT;have:s=[]:=List.eq_nil_of_length_eq_zero (by omega);subst this;rw[List.append_nil];exact text_endB hT r
 |succ n ih=>
  intro s out t r hl hu hT;cases s with
  |nil=>
   rw[List.append_nil];exact text_endB hT r
  |cons c s=>
   simp only[List.length_cons]at hl;by_cases hc:c.toNat<128
   ·have hu2:uGo n s=true:=by rw[uGo,if_pos hc]at hu;exact hu
    obtain⟨t',hT',e⟩:=quote_one hT hc (s.flatMap quoteB++34::r);rw[List.flatMap_cons,List.append_assoc,e,ih s (out++[c]) t' r (by omega) hu2 hT',List.append_assoc];rfl
   ·obtain⟨k,x,hC,hu2⟩:=u_char (c::s) 0 n c s rfl hu
    rw[Nat.zero_add]at hu2;have hen:encR x=(c::s).take k:=hC.en;have hk:=hC.n1;obtain⟨m,rfl⟩:∃m,k=m+1:=⟨k-1,by omega⟩;rw[List.take_succ_cons]at hen
    have hx:128≤x:=by
     refine Classical.byContradiction fun hx=>?_
     have h1:encR x=[UInt8.ofNat x]:=by unfold encR;rw[if_pos (by omega)]
     rw[h1]at hen;injection hen with h2 _
     rw[←h2,u8_lt (by omega)]at hc;omega
    have hq:((c::s).take (m+1)).flatMap quoteB=(c::s).take (m+1):=quote_high _ (hC.hi hx)
    have hsp:(c::s).flatMap quoteB=encR x++((c::s).drop (m+1)).flatMap quoteB:=by
     rw[show encR x=(c::s).take (m+1)from hC.en,←hq,←List.flatMap_append,List.take_append_drop]
    have hr:=char_run out t hT c (by omega) (s.take m++(((c::s).drop (m+1)).flatMap quoteB++34::r));rw[←List.cons_append,←hen,char_enc hx hC.va]at hr;obtain⟨t',hT',e⟩:=hr;rw[hsp,List.append_assoc,e,ih ((c::s).drop (m+1)) (out++encR x) t' r (by simp only[List.drop_succ_cons,List.length_drop];omega) hu2 hT',List.append_assoc,show encR x=(c::s).take (m+1)from hC.en,List.take_append_drop]
theorem text_back {s:List UInt8} (h:isU s=true) (r:List UInt8):trRun tr0 (s.flatMap quoteB++34::r)=.ok s r:=by
 have:=quote_run s.length s [] tr0 r (Nat.le_refl _) h ⟨rfl,rfl,rfl⟩;rwa[List.nil_append]at this
theorem calls_get {P:Program} {f:FuncId} {args:Array Value} {w:World} {b:Value} {R:Ending→World→Prop} {S:World→Prop} (hi:P.inits.idxOf? f=none) (h1:Calls P f args w R) (hR:∀e w',R e w'→∃a,e=.returned a) (h2:Calls P f args w fun e w'=>e=.returned b∧S w'):∃w',R (.returned b) w':=by
 obtain⟨e1,w1,f1,r1,hc1,n1,l1⟩:=h1 [];obtain⟨a,rfl⟩:=hR _ _ r1;obtain⟨j1,c1⟩:=hc1;obtain⟨e2,w2,f2,⟨rfl,_⟩,⟨j2,c2⟩,n2,l2⟩:=h2 [];have s1:=step_leave_done l1 (by rw[n1];exact hi);have s2:=step_leave_done l2 (by rw[n2];exact hi);have:=run_ended_one c1 s1 c2 s2;injection this with this
 subst this;exact⟨w1,r1⟩
theorem parse_printed (w:World) (bits:Nat) (hb:bits<18446744073709551616) (hfin:bits % 9223372036854775808<9218868437227405312):
 (printT bits).length≤101∧Calls Tryz.prog 22 #[.string (ofL (printT bits))] w fun e w'=>e=.returned (.tuple #[.int .u64 (bits:Int),.int .i64 0])∧Fr (fun _=>False) w w':=by
 refine⟨printT_len w bits hb hfin,?_⟩;obtain⟨m,hm⟩:∃m,bits % 9223372036854775808=m:=⟨_,rfl⟩;have hx:=u64_andNot_sign bits hb;rw[hm]at hx hfin
 have hv:parseV (bits !=m) m=(bits,0):=by
  unfold parseV;rw[if_neg (by omega)];by_cases h:bits=m
  ·rw[h,bne_self_eq_false];rfl
  ·rw[bne_iff_ne.2 h,if_pos rfl]
   congr 1;omega
 have hT:=print_T bits w hb (by rw[hm];exact hfin);by_cases h0:m=0
 ·subst h0
  have e1:=calls_one (by kernel_rfl) hT (print_zero bits 0 w hx rfl);simp only[Value.tuple.injEq,Array.mk.injEq,List.cons.injEq,Value.string.injEq,and_true]at e1;rw[ofL_inj e1,printL_eq];have ht:=tok_dgs 0;rw[dgs_lt (by omega)]at ht;have hp:=parse_zero (bits !=0) ht (by decide) (by decide) (by decide) w;rw[hv]at hp;exact hp
 ·obtain⟨w',D,pw,hS,hD,p1,p2,e1,_⟩:=calls_get (by kernel_rfl) (print_num bits m w hx h0 hfin) (fun e w' ⟨D,pw,_,_,_,_,h,_⟩=>⟨_,h⟩) hT
  simp only[Ending.returned.injEq,Value.tuple.injEq,Array.mk.injEq,List.cons.injEq,Value.string.injEq,and_true]at e1;rw[ofL_inj e1];have:=parse_print (bits !=m) hS h0 hfin hD p1 p2 w;rw[hv]at this;exact this
theorem print_tok (w:World) (bits:Nat) (hb:bits<18446744073709551616) (hfin:bits % 9223372036854775808<9218868437227405312):∃t,run t0 (printT bits)=some t∧Ends t.st∧tokV t=(bits,0)∧oor t.D t.at=false:=by
 obtain⟨hl,hp⟩:=parse_printed w bits hb hfin;generalize printT bits=X at*
 have hR:∀e (w':World),PPost X e∧Fr (fun _=>False) w w'→∃a,e=.returned a:=by
  rintro e w' ⟨⟨h1,h2⟩,-⟩;by_cases h:∃t,run t0 X=some t∧Ends t.st
  ·obtain⟨t,ht,hE⟩:=h
   obtain⟨r,_,he⟩:=h1 t ht hE;exact⟨_,he⟩
  ·exact⟨_,h2 fun t ht hE=>h ⟨t,ht,hE⟩⟩
 obtain⟨w',⟨h1,h2⟩,-⟩:=calls_get (by kernel_rfl) (parse_run X w (by omega)) hR hp;by_cases h:∃t,run t0 X=some t∧Ends t.st
 ·obtain⟨t,ht,hE⟩:=h
  obtain⟨r,hr,he⟩:=h1 t ht hE;simp only[Ending.returned.injEq,Value.tuple.injEq,Array.mk.injEq,List.cons.injEq,Value.int.injEq,and_true,true_and]at he;obtain⟨e1,e2⟩:=he
  have hv:parseV t.neg r=(bits,0):=by
   refine Prod.ext ?_ ?_
   ·show(parseV t.neg r).1=bits;omega
   ·show(parseV t.neg r).2=0;omega
  refine⟨t,ht,hE,by rw[tokV_near hE (run_okk ht).1 hr,hv],?_⟩;rw[oor_near hr];refine decide_eq_false ((parseV_err t.neg r).2.1 ?_);rw[hv]
 ·have:=h2 fun t ht hE=>h ⟨t,ht,hE⟩
  simp at this
theorem lost_more {t t':Tk} {c:UInt8} {k:Nat} (hk:TkOk t k) (h:nxt t c=some t') (hl:tokLost t=true):tokLost t'=true:=by
 unfold tokLost at hl;simp only[Bool.and_eq_true,Bool.not_eq_true',decide_eq_true_eq]at hl;obtain⟨⟨h7,hn⟩,ho⟩:=hl;have hst:=hk.st;have hpw:=hk.pw;unfold nxt at h;split at h
 ·cases h
 rename_i hb
 have h8:beh t.st c=8:=by
  revert hb
  unfold beh
  repeat' split
  all_goals first|omega|simp
 rw[h8]at h;simp only[Option.some.injEq]at h;have e:nxtTo t c 8=⟨8,t.neg,t.D,t.P,min (t.pw*10+(c.toNat-48)) (t.P.natAbs+632),t.pn⟩:=rfl;rw[e]at h;subst h;unfold tokLost;rw[decide_eq_true (show 7≤8 by omega),hn];simp only[Bool.true_and,Bool.not_false];have ha:t.at=t.P+t.pw:=by unfold Tk.at;rw[hn];rfl
 have ha':(Tk.mk 8 t.neg t.D t.P (min (t.pw*10+(c.toNat-48)) (t.P.natAbs+632)) false).at=t.P+(min (t.pw*10+(c.toNat-48)) (t.P.natAbs+632):Nat):=rfl;rw[ha]at ho;rw[ha'];have hge:t.pw≤min (t.pw*10+(c.toNat-48)) (t.P.natAbs+632):=by omega
 generalize min (t.pw*10+(c.toNat-48)) (t.P.natAbs+632)=q at*;unfold oor at ho ⊢;split at ho
 ·cases ho
 ·rename_i hd
  rw[if_neg (fun hh=>hd (hh.elim .inl (fun h=>.inr (by omega))))];split at ho
  ·rw[if_pos (by omega)]
  ·by_cases hq:309<t.P+(q:Int)
   ·rw[if_pos hq]
   ·rw[if_neg hq];exact ho
theorem lost_run {l:List UInt8} {t t':Tk} {k:Nat} (hk:TkOk t k) (hz:PwZero t) (h:run t l=some t') (hl:tokLost t=true):tokLost t'=true:=by
 induction l generalizing t k with
 |nil=>simp only[run,Option.some.injEq]at h;rw[←h];exact hl
 |cons c l ih=>
  rw[run]at h;cases hn:nxt t c with
  |none=>rw[hn]at h;cases h
  |some t1=>
   rw[hn]at h;obtain⟨a,b⟩:=nxt_ok hk hz hn;exact ih a b h (lost_more hk hn hl)
theorem tk_run {l:List UInt8} {t t':Tk} {k:Nat} (hk:TkOk t k) (hz:PwZero t) (h:run t l=some t') (hl:tokLost t'=false) (r:List UInt8):tkRun t (l++r)=tkRun t' r:=by
 induction l generalizing t k with
 |nil=>simp only[run,Option.some.injEq]at h;rw[←h];rfl
 |cons c l ih=>
  rw[run]at h;cases hn:nxt t c with
  |none=>rw[hn]at h;cases h
  |some t1=>
   rw[hn]at h;obtain⟨a,b⟩:=nxt_ok hk hz hn
   have h1:tokLost t1=false:=by
    cases hx:tokLost t1 with
    |false=>rfl
    |true=>rw[lost_run a b h hx]at hl;cases hl
   rw[List.cons_append,tkRun,hn];simp only;rw[h1,if_neg (by simp),ih a b h]
def Aft (r:List UInt8):Prop:=r=[]∨∃c q,r=c::q∧(c=44∨c=93∨c=125∨c=10)
theorem aft_none {c:UInt8} (h:c=44∨c=93∨c=125∨c=10) (t:Tk):nxt t c=none:=by
 have hb:beh t.st c=0:=by
  unfold beh;rcases h with rfl|rfl|rfl|rfl<;>simp[isD]
 unfold nxt;rw[if_pos hb]
theorem num_back (w:World) (inn bits:Nat) (hb:bits<18446744073709551616) (hfin:bits % 9223372036854775808<9218868437227405312) {r:List UInt8} (hr:Aft r):
 numOut inn (printT bits++r)=.ok 0 [⟨3,0,bits,[]⟩] r∧∃c q,printT bits=c::q∧(c=45∨isD c=true):=by
 obtain⟨t,ht,hE,hv,ho⟩:=print_tok w bits hb hfin;have hl:tokLost t=false:=by unfold tokLost;rw[ho,Bool.and_false]
 refine⟨?_,?_⟩
 ·unfold numOut
  rw[tk_run t0_ok t0_pw ht hl r];rcases hr with rfl|⟨c,q,rfl,hc⟩
  ·show(if(tokV t).2=0 then _ else _)=_
   rw[hv];rfl
  ·rw[tkRun,aft_none hc t]
   show(if(tokV t).2≠0 then _ else _)=_
   rw[hv];rfl
 ·cases hX:printT bits with
  |nil=>
   rw[hX]at ht;simp only[run,Option.some.injEq]at ht;rw[←ht]at hE;exact absurd hE (by unfold Ends t0;simp)
  |cons c q=>
   refine⟨c,q,rfl,?_⟩;rw[hX,run]at ht;refine Classical.byContradiction fun h=>?_
   rw[begin_none h]at ht;cases ht
end Go.Proofs.YtmkkibaacclhnaaGreatDoor
