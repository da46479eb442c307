/-
  A step of the walk, the part named Ye. No theorem of the row.
-/
import Derived.Test.YtmkkibaacclhnaaGreatDoorZg
import Derived.Test.YtmkkibaacclhnaaGreatDoorZd
import Derived.Test.YtmkkibaacclhnaaGreatDoorYb
import Derived.Test.YtmkkibaacclhnaaGreatDoorWy
import Derived.Test.YtmkkibaacclhnaaGreatDoorXcd
namespace Go.Proofs.YtmkkibaacclhnaaGreatDoor
open Go.RowKit
def BL (b:List UInt8):Prop:=∀c,c∈b→blank c=true
theorem skip_BL {b:List UInt8} (h:BL b) (x:List UInt8):skipB (b++x)=skipB x:=by
 induction b with
 |nil=>rfl
 |cons c b ih=>
  rw[List.cons_append,skipB,if_pos (h c (by simp))];exact ih fun y hy=>h y (by simp[hy])
theorem skip_at {c:UInt8} (h:blank c=false) (q:List UInt8):skipB (c::q)=c::q:=by
 rw[skipB,if_neg (by rw[h];simp)]
theorem BL_line (indent:Int) (n:Nat):BL (lineL indent n):=by
 intro c hc;unfold lineL at hc;split at hc
 ·cases hc
 ·rcases List.mem_cons.1 hc with rfl|hc
  ·decide
  ·rw[(List.mem_replicate.1 hc).2];decide
theorem BL_nil:BL []:=fun c hc=>by cases hc
theorem line_aft (indent:Int) (n:Nat) (e:UInt8) (he:e=93∨e=125) (r:List UInt8):Aft (lineL indent n++e::r):=by
 unfold lineL;split
 ·exact .inr ⟨e,r,rfl,by rcases he with h|h<;>simp[h]⟩
 ·exact .inr ⟨10,_,rfl,by simp⟩
theorem rg_text {depth f inn:Nat} {r q:List UInt8} (h:skipB r=34::q):rGo depth (f+1) inn .val r=textV q:=by
 rw[rGo.eq_def];simp only[h];rw[if_pos trivial]
theorem rg_arr {depth f inn:Nat} {r q:List UInt8} (h:skipB r=91::q) (hd:inn≠depth):rGo depth (f+1) inn .val r=nestV 5 (rGo depth f (inn+1) .vals q):=by
 rw[rGo.eq_def];simp only[h];rw[if_neg (by decide),if_pos trivial,if_neg hd]
theorem rg_obj {depth f inn:Nat} {r q:List UInt8} (h:skipB r=123::q) (hd:inn≠depth):rGo depth (f+1) inn .val r=nestV 6 (rGo depth f (inn+1) .pairs q):=by
 rw[rGo.eq_def];simp only[h];rw[if_neg (by decide),if_neg (by decide),if_pos trivial,if_neg hd]
theorem rg_numb {depth f inn:Nat} {r q:List UInt8} {c:UInt8} (h:skipB r=c::q) (hc:c=45∨isD c=true):rGo depth (f+1) inn .val r=numOut inn (c::q):=by
 rw[rGo.eq_def];simp only[h];rw[if_neg (num_ne hc (by decide)),if_neg (num_ne hc (by decide)),if_neg (num_ne hc (by decide)),if_pos hc]
theorem rg_null {depth f inn:Nat} {r q:List UInt8} (h:skipB r=110::q):rGo depth (f+1) inn .val r=wordV 0 [110,117,108,108] (110::q):=by
 rw[rGo.eq_def];simp only[h];rw[if_neg (by decide),if_neg (by decide),if_neg (by decide),if_neg (by decide),if_pos trivial]
theorem rg_false {depth f inn:Nat} {r q:List UInt8} (h:skipB r=102::q):rGo depth (f+1) inn .val r=wordV 1 [102,97,108,115,101] (102::q):=by
 rw[rGo.eq_def];simp only[h];rw[if_neg (by decide),if_neg (by decide),if_neg (by decide),if_neg (by decide),if_neg (by decide),if_pos trivial]
theorem rg_true {depth f inn:Nat} {r q:List UInt8} (h:skipB r=116::q):rGo depth (f+1) inn .val r=wordV 2 [116,114,117,101] (116::q):=by
 rw[rGo.eq_def];simp only[h];rw[if_neg (by decide),if_neg (by decide),if_neg (by decide),if_neg (by decide),if_neg (by decide),if_neg (by decide),if_pos trivial]
theorem rg_vals0 {depth f inn:Nat} {r q:List UInt8} (h:skipB r=93::q):rGo depth (f+1) inn .vals r=.ok 0 [] q:=by
 rw[rGo.eq_def];simp only[h];rw[if_pos trivial]
theorem rg_vals1 {depth f inn:Nat} {r q:List UInt8} {c:UInt8} (h:skipB r=c::q) (hc:c≠93):rGo depth (f+1) inn .vals r=rGo depth f inn (.valsGo 1 []) (c::q):=by
 rw[rGo.eq_def];simp only[h];rw[if_neg hc]
theorem rg_pairs0 {depth f inn:Nat} {r q:List UInt8} (h:skipB r=125::q):rGo depth (f+1) inn .pairs r=.ok 0 [] q:=by
 rw[rGo.eq_def];simp only[h];rw[if_pos trivial]
theorem rg_pairs1 {depth f inn:Nat} {r q:List UInt8} {c:UInt8} (h:skipB r=c::q) (hc:c≠125):rGo depth (f+1) inn .pairs r=rGo depth f inn (.pairsGo 1 []) (c::q):=by
 rw[rGo.eq_def];simp only[h];rw[if_neg hc]
theorem rg_vend {depth f inn n a:Nat} {acc its:List It} {r p q:List UInt8} (h:rGo depth f inn .val r=.ok a its p) (hp:skipB p=93::q):rGo depth (f+1) inn (.valsGo n acc) r=.ok n (acc++its) q:=by
 rw[rGo.eq_def];simp only[h,hp];rw[if_pos trivial]
theorem rg_vmore {depth f inn n a:Nat} {acc its:List It} {r p q:List UInt8} (h:rGo depth f inn .val r=.ok a its p) (hp:skipB p=44::q):rGo depth (f+1) inn (.valsGo n acc) r=rGo depth f inn (.valsGo (n+1) (acc++its)) q:=by
 rw[rGo.eq_def];simp only[h,hp];rw[if_neg (by decide),if_pos trivial]
theorem rg_pend {depth f inn n a:Nat} {acc its:List It} {r p q:List UInt8} (h:rGo depth f inn .pair r=.ok a its p) (hp:skipB p=125::q):rGo depth (f+1) inn (.pairsGo n acc) r=.ok n (acc++its) q:=by
 rw[rGo.eq_def];simp only[h,hp];rw[if_pos trivial]
theorem rg_pmore {depth f inn n a:Nat} {acc its:List It} {r p q:List UInt8} (h:rGo depth f inn .pair r=.ok a its p) (hp:skipB p=44::q):rGo depth (f+1) inn (.pairsGo n acc) r=rGo depth f inn (.pairsGo (n+1) (acc++its)) q:=by
 rw[rGo.eq_def];simp only[h,hp];rw[if_neg (by decide),if_pos trivial]
theorem rg_pair {depth f inn a:Nat} {its:List It} {r q s p q2 p2:List UInt8} (h:skipB r=34::q) (ht:trRun tr0 q=.ok s p) (hp:skipB p=58::q2) (hv:rGo depth f inn .val q2=.ok a its p2):rGo depth (f+1) inn .pair r=.ok 0 (⟨4,0,0,s⟩::its) p2:=by
 rw[rGo.eq_def];simp only[h,ht,hp,hv];rw[if_neg (by simp),if_neg (by simp)]
theorem lf_shape {x:It} (h:Lf x):(x=⟨0,0,0,[]⟩∨x=⟨1,0,0,[]⟩∨x=⟨2,0,0,[]⟩)∨(∃b,x=⟨3,0,b,[]⟩∧b<18446744073709551616∧b % 9223372036854775808<9218868437227405312)∨(∃s,x=⟨4,0,0,s⟩∧isU s=true):=by
 obtain⟨k,n,b,s⟩:=x;obtain⟨hg,hk,hb⟩:=h;simp only at hk hb;unfold goodI toIm at hg;simp only at hg;have hc:k=0∨k=1∨k=2∨k=3∨k=4:=by omega
 rcases hc with rfl|rfl|rfl|rfl|rfl
 ·simp at hg
  obtain⟨⟨rfl,rfl⟩,rfl⟩:=hg;exact .inl (.inl rfl)
 ·simp at hg
  obtain⟨⟨rfl,rfl⟩,rfl⟩:=hg;exact .inl (.inr (.inl rfl))
 ·simp at hg
  obtain⟨⟨rfl,rfl⟩,rfl⟩:=hg;exact .inl (.inr (.inr rfl))
 ·simp at hg
  obtain⟨⟨rfl,rfl⟩,h⟩:=hg;exact .inr (.inl ⟨b,rfl,hb,h⟩)
 ·simp at hg
  obtain⟨⟨rfl,rfl⟩,h⟩:=hg;exact .inr (.inr ⟨s,rfl,h⟩)
def Hd (x:List UInt8):Prop:=∃c q,x=c::q∧blank c=false∧c≠93∧c≠125
theorem num_hd {c:UInt8} (h:c=45∨isD c=true):blank c=false∧c≠93∧c≠125:=by
 refine⟨?_,num_ne h (by decide),num_ne h (by decide)⟩;unfold blank;refine decide_eq_false ?_;rintro(rfl|rfl|rfl|rfl)<;>revert h<;>decide
theorem lf_hd (w:World) {x:It} (h:Lf x):Hd (leafT (toIm x)):=by
 rcases lf_shape h with(rfl|rfl|rfl)|⟨b,rfl,hb,hf⟩|⟨s,rfl,_⟩
 ·exact⟨110,[117,108,108],rfl,by decide,by decide,by decide⟩
 ·exact⟨102,[97,108,115,101],rfl,by decide,by decide,by decide⟩
 ·exact⟨116,[114,117,101],rfl,by decide,by decide,by decide⟩
 ·obtain⟨-,c,q,e,hc⟩:=num_back w 0 b hb hf (r:=[]) (.inl rfl)
  exact⟨c,q,e,num_hd hc⟩
 ·exact⟨34,_,rfl,by decide,by decide,by decide⟩
theorem join_hd (indent:Int) (inn:Nat) (obj:Bool) (ps:List (List UInt8)):Hd (joinL indent inn obj ps):=by
 unfold joinL;split
 ·cases obj
  ·exact⟨91,[93],rfl,by decide,by decide,by decide⟩
  ·exact⟨123,[125],rfl,by decide,by decide,by decide⟩
 ·cases obj
  ·exact⟨91,_,rfl,by decide,by decide,by decide⟩
  ·exact⟨123,_,rfl,by decide,by decide,by decide⟩
theorem Vl.hd (w:World) {e d:Nat} {l:List It} (h:Vl e l) (hd:e≤d) (indent:Int) (so:Bool):Hd (wrD indent so d (ims l)):=by
 cases e with
 |zero=>obtain⟨x,rfl,h⟩:=h;rw[wr_lf _ _ _ h];exact lf_hd w h
 |succ e=>
  rcases h with⟨x,rfl,h⟩|⟨ps,rfl,h⟩|⟨ps,rfl,h⟩
  ·rw[wr_lf _ _ _ h];exact lf_hd w h
  ·obtain⟨d,rfl⟩:∃d',d=d'+1:=⟨d-1,by omega⟩
   rw[wr_ar indent so h (by omega)];exact join_hd _ _ _ _
  ·obtain⟨d,rfl⟩:∃d',d=d'+1:=⟨d-1,by omega⟩
   rw[wr_ob indent so h (by omega)];exact join_hd _ _ _ _
def RdOk (depth e:Nat) (x:List UInt8) (l:List It):Prop:=∀(inn f:Nat) (r b:List UInt8),inn+e≤depth→Aft r→BL b→4*(b.length+x.length+r.length)+1≤f→rGo depth f inn .val (b++(x++r))=.ok 0 l r
theorem lf_read (w:World) (depth e:Nat) {x:It} (h:Lf x):RdOk depth e (leafT (toIm x)) [x]:=by
 intro inn f r b hi hr hb hf;obtain⟨f,rfl⟩:∃f',f=f'+1:=⟨f-1,by omega⟩;rcases lf_shape h with(rfl|rfl|rfl)|⟨n,rfl,hn,hfin⟩|⟨s,rfl,hs⟩
 ·rw[rg_null (q:=[117,108,108]++r) (by rw[skip_BL hb];exact skip_at (by decide) _)]
  show wordV 0 _ (110::117::108::108::r)=_
  simp[wordV,wordGo]
 ·rw[rg_false (q:=[97,108,115,101]++r) (by rw[skip_BL hb];exact skip_at (by decide) _)]
  show wordV 1 _ (102::97::108::115::101::r)=_
  simp[wordV,wordGo]
 ·rw[rg_true (q:=[114,117,101]++r) (by rw[skip_BL hb];exact skip_at (by decide) _)]
  show wordV 2 _ (116::114::117::101::r)=_
  simp[wordV,wordGo]
 ·obtain⟨e1,c,q,e2,hc⟩:=num_back w inn n hn hfin hr
  show rGo depth (f+1) inn .val (b++(printT n++r))=_
  rw[rg_numb (c:=c) (q:=q++r) (by rw[skip_BL hb,e2];exact skip_at (num_hd hc).1 _) hc,←List.cons_append,←e2];exact e1
 ·show rGo depth (f+1) inn .val (b++(34::(s.flatMap quoteB++[34])++r))=_
  rw[rg_text (q:=s.flatMap quoteB++34::r) (by rw[skip_BL hb];simp only[List.cons_append,List.append_assoc,List.nil_append];exact skip_at (by decide) _),textV,text_back hs]
theorem vals_run (depth e inn k k2:Nat) (indent:Int) (W:List It→List UInt8) (hi:inn+e≤depth) (r:List UInt8) (ps:List (List It)):∀(p:List It) (n f:Nat) (acc:List It) (b:List UInt8),(∀q,q∈p::ps→RdOk depth e (W q) q)→BL b→4*(b.length+(W p++(joinGo indent k false (ps.map W)++(lineL indent k2++93::r))).length)+2≤f→
 rGo depth f inn (.valsGo n acc) (b++(W p++(joinGo indent k false (ps.map W)++(lineL indent k2++93::r))))=.ok (n+ps.length) (acc++(p::ps).flatten) r:=by
 induction ps with
 |nil=>
  intro p n f acc b h hb hf;obtain⟨f,rfl⟩:∃f',f=f'+1:=⟨f-1,by omega⟩;simp only[List.map_nil,joinGo,List.nil_append,List.length_append]at hf ⊢;have h1:=h p (by simp) inn f (lineL indent k2++93::r) b hi (line_aft indent k2 93 (.inl rfl) r) hb (by simp only[List.length_append];omega);rw[rg_vend h1 (by rw[skip_BL (BL_line _ _)];exact skip_at (by decide) r)];simp
 |cons p2 ps ih=>
  intro p n f acc b h hb hf;obtain⟨f,rfl⟩:∃f',f=f'+1:=⟨f-1,by omega⟩
  have e1:joinGo indent k false ((p2::ps).map W)++(lineL indent k2++93::r)=44::(lineL indent k++(W p2++(joinGo indent k false (ps.map W)++(lineL indent k2++93::r)))):=by
   rw[List.map_cons,joinGo];simp only[Bool.false_eq_true,if_false,List.append_assoc,List.cons_append,List.nil_append]
  rw[e1]at hf ⊢;simp only[List.length_append,List.length_cons]at hf;have h1:=h p (by simp) inn f (44::(lineL indent k++(W p2++(joinGo indent k false (ps.map W)++(lineL indent k2++93::r))))) b hi (.inr ⟨44,_,rfl,by simp⟩) hb (by simp only[List.length_append,List.length_cons];omega);rw[rg_vmore h1 (skip_at (by decide) _),ih p2 (n+1) f (acc++p) (lineL indent k) (fun q hq=>h q (by simp[List.mem_cons.1 hq])) (BL_line _ _) (by simp only[List.length_append,List.length_cons];omega)];simp only[List.length_cons,List.flatten_cons,List.append_assoc];congr 1;omega
theorem pair_run1 (depth e inn:Nat) (indent:Int) (hi:inn+e≤depth) (key x:List UInt8) (l:List It) (hk:isU key=true) (hx:RdOk depth e x l) (f:Nat) (b r:List UInt8) (hb:BL b) (hr:Aft r) (hf:4*(b.length+(headL indent key++x).length+r.length)+2≤f):
 rGo depth f inn .pair (b++(headL indent key++x++r))=.ok 0 (pairI (key,l)) r:=by
 obtain⟨f,rfl⟩:∃f',f=f'+1:=⟨f-1,by omega⟩
 have hsp:BL (if indent= -1 then[]else[32]):=by
  split
  ·exact BL_nil
  ·intro c hc;rw[List.mem_singleton.1 hc];decide
 have e1:headL indent key++x++r=34::(key.flatMap quoteB++34::(58::((if indent= -1 then[]else[32])++(x++r)))):=by
  unfold headL quoteL;simp only[List.cons_append,List.append_assoc,List.nil_append]
 have hf2:4*((if indent= -1 then[]else[32]:List UInt8).length+x.length+r.length)+1≤f:=by
  have:=congrArg List.length e1;simp only[List.length_append,List.length_cons]at this hf;omega
 rw[e1];exact rg_pair (by rw[skip_BL hb];exact skip_at (by decide) _) (text_back hk _) (skip_at (by decide) _) (hx inn f r _ hi hr hsp hf2)
theorem pairs_run (depth e inn k k2:Nat) (indent:Int) (W:List It→List UInt8) (hi:inn+e≤depth) (r:List UInt8) (ps:List (List UInt8×List It)):∀(p:List UInt8×List It) (n f:Nat) (acc:List It) (b:List UInt8),(∀q,q∈p::ps→isU q.1=true∧RdOk depth e (W q.2) q.2)→BL b→4*(b.length+((headL indent p.1++W p.2)++(joinGo indent k false (ps.map fun p=>headL indent p.1++W p.2)++(lineL indent k2++125::r))).length)+3≤f→
 rGo depth f inn (.pairsGo n acc) (b++((headL indent p.1++W p.2)++(joinGo indent k false (ps.map fun p=>headL indent p.1++W p.2)++(lineL indent k2++125::r))))=.ok (n+ps.length) (acc++(p::ps).flatMap pairI) r:=by
 induction ps with
 |nil=>
  intro p n f acc b h hb hf;obtain⟨f,rfl⟩:∃f',f=f'+1:=⟨f-1,by omega⟩;obtain⟨h1,h2⟩:=h p (by simp);simp only[List.map_nil,joinGo,List.nil_append]at hf ⊢;have h3:=pair_run1 depth e inn indent hi p.1 (W p.2) p.2 h1 h2 f b (lineL indent k2++125::r) hb (line_aft indent k2 125 (.inr rfl) r) (by simp only[List.length_append]at hf ⊢;omega);rw[rg_pend h3 (by rw[skip_BL (BL_line _ _)];exact skip_at (by decide) r)];simp
 |cons p2 ps ih=>
  intro p n f acc b h hb hf;obtain⟨f,rfl⟩:∃f',f=f'+1:=⟨f-1,by omega⟩;obtain⟨h1,h2⟩:=h p (by simp)
  have e1:joinGo indent k false ((p2::ps).map fun p=>headL indent p.1++W p.2)++(lineL indent k2++125::r)=44::(lineL indent k++((headL indent p2.1++W p2.2)++(joinGo indent k false (ps.map fun p=>headL indent p.1++W p.2)++(lineL indent k2++125::r)))):=by
   rw[List.map_cons,joinGo];simp only[Bool.false_eq_true,if_false,List.append_assoc,List.cons_append,List.nil_append]
  rw[e1]at hf ⊢;have h3:=pair_run1 depth e inn indent hi p.1 (W p.2) p.2 h1 h2 f b (44::(lineL indent k++((headL indent p2.1++W p2.2)++(joinGo indent k false (ps.map fun p=>headL indent p.1++W p.2)++(lineL indent k2++125::r))))) hb (.inr ⟨44,_,rfl,by simp⟩) (by simp only[List.length_append,List.length_cons]at hf ⊢;omega);rw[rg_pmore h3 (skip_at (by decide) _),ih p2 (n+1) f (acc++pairI (p.1,p.2)) (lineL indent k) (fun q hq=>h q (by simp[List.mem_cons.1 hq])) (BL_line _ _) (by simp only[List.length_append,List.length_cons]at hf ⊢;omega)];simp only[List.length_cons,List.flatMap_cons,List.append_assoc];congr 1;omega
theorem read_back1 (w:World) (depth:Nat) (indent:Int) (e:Nat):∀(d:Nat) (l:List It),Vl e l→e≤d→RdOk depth e (wrD indent false d (ims l)) l:=by
 induction e with
 |zero=>rintro d l ⟨x,rfl,h⟩ _;rw[wr_lf _ _ _ h];exact lf_read w depth 0 h
 |succ e ih=>
  rintro d l (⟨x,rfl,h⟩|⟨ps,rfl,h⟩|⟨ps,rfl,h⟩) hd
  ·rw[wr_lf _ _ _ h];exact lf_read w depth _ h
  ·obtain⟨d,rfl⟩:∃d',d=d'+1:=⟨d-1,by omega⟩
   rw[wr_ar indent false h (by omega)];intro inn f r b hi hr hb hf;obtain⟨f,rfl⟩:∃f',f=f'+1:=⟨f-1,by omega⟩;have hi2:inn+1+e≤depth:=by omega
   cases ps with
   |nil=>
    simp only[List.map_nil,joinL,List.length_nil,if_true,List.length_cons]at hf ⊢;obtain⟨f,rfl⟩:∃f',f=f'+1:=⟨f-1,by omega⟩;rw[rg_arr (q:=93::r) (by rw[skip_BL hb];exact skip_at (by decide) _) (by omega),rg_vals0 (skip_at (by decide) r)];rfl
   |cons p ps=>
    have e1:joinL indent (999-d) false ((p::ps).map fun p=>wrD indent false d (ims p))++r=91::(lineL indent (999-d+1)++(wrD indent false d (ims p)++(joinGo indent (999-d+1) false (ps.map fun p=>wrD indent false d (ims p))++(lineL indent (999-d)++93::r)))):=by
     unfold joinL;rw[if_neg (by simp),List.map_cons,joinGo];simp only[if_true,List.append_assoc,List.cons_append,List.nil_append,openB,endB,Bool.false_eq_true,if_false]
    have hl:=congrArg List.length e1;rw[List.length_append]at hl;simp only[List.length_cons,List.length_append]at hl;obtain⟨f,rfl⟩:∃f',f=f'+1:=⟨f-1,by omega⟩;obtain⟨c,q,ec,c1,c2,_⟩:=(h p (by simp)).hd w (show e≤d by omega) indent false;rw[e1,rg_arr (by rw[skip_BL hb];exact skip_at (by decide) _) (by omega)]
    have e2:skipB (lineL indent (999-d+1)++(wrD indent false d (ims p)++(joinGo indent (999-d+1) false (ps.map fun p=>wrD indent false d (ims p))++(lineL indent (999-d)++93::r))))=wrD indent false d (ims p)++(joinGo indent (999-d+1) false (ps.map fun p=>wrD indent false d (ims p))++(lineL indent (999-d)++93::r)):=by
     rw[skip_BL (BL_line _ _),ec];exact skip_at c1 _
    rw[ec,List.cons_append]at e2;rw[rg_vals1 (by rw[ec,List.cons_append];exact e2) c2,←List.cons_append,←ec];have:=vals_run depth e (inn+1) (999-d+1) (999-d) indent (fun p=>wrD indent false d (ims p)) hi2 r ps p 1 f [] [] (fun q hq=>ih d q (h q hq) (by omega)) BL_nil (by simp only[List.length_append,List.length_cons,List.length_nil]at hf ⊢;omega);rw[List.nil_append,List.nil_append]at this;rw[this,nestV,arrI,List.length_cons,Nat.add_comm 1]
  ·obtain⟨d,rfl⟩:∃d',d=d'+1:=⟨d-1,by omega⟩
   rw[wr_ob indent false h (by omega),ordL_false,List.map_map];intro inn f r b hi hr hb hf;obtain⟨f,rfl⟩:∃f',f=f'+1:=⟨f-1,by omega⟩;have hi2:inn+1+e≤depth:=by omega
   have eM:∀ps:List (List UInt8×List It),ps.map ((fun x=>x.2)∘fun p=>(p.1,headL indent p.1++wrD indent false d (ims p.2)))=ps.map (fun p=>headL indent p.1++wrD indent false d (ims p.2)):=fun ps=>rfl
   rw[eM]at hf ⊢;cases ps with
   |nil=>
    simp only[List.map_nil,joinL,List.length_nil,if_true,List.length_cons]at hf ⊢;obtain⟨f,rfl⟩:∃f',f=f'+1:=⟨f-1,by omega⟩;rw[rg_obj (q:=125::r) (by rw[skip_BL hb];exact skip_at (by decide) _) (by omega),rg_pairs0 (skip_at (by decide) r)];rfl
   |cons p ps=>
    have e1:joinL indent (999-d) true ((p::ps).map fun p=>headL indent p.1++wrD indent false d (ims p.2))++r=123::(lineL indent (999-d+1)++((headL indent p.1++wrD indent false d (ims p.2))++(joinGo indent (999-d+1) false (ps.map fun p=>headL indent p.1++wrD indent false d (ims p.2))++(lineL indent (999-d)++125::r)))):=by
     unfold joinL;rw[if_neg (by simp),List.map_cons,joinGo];simp only[if_true,List.append_assoc,List.cons_append,List.nil_append,openB,endB]
    have hl:=congrArg List.length e1;rw[List.length_append]at hl;simp only[List.length_cons,List.length_append]at hl;obtain⟨f,rfl⟩:∃f',f=f'+1:=⟨f-1,by omega⟩;rw[e1,rg_obj (by rw[skip_BL hb];exact skip_at (by decide) _) (by omega)]
    have e2:skipB (lineL indent (999-d+1)++((headL indent p.1++wrD indent false d (ims p.2))++(joinGo indent (999-d+1) false (ps.map fun p=>headL indent p.1++wrD indent false d (ims p.2))++(lineL indent (999-d)++125::r))))=(headL indent p.1++wrD indent false d (ims p.2))++(joinGo indent (999-d+1) false (ps.map fun p=>headL indent p.1++wrD indent false d (ims p.2))++(lineL indent (999-d)++125::r)):=by
     rw[skip_BL (BL_line _ _)];exact skip_at (by decide) _
    obtain⟨q,eq⟩:∃q,headL indent p.1++wrD indent false d (ims p.2)=34::q:=⟨_,rfl⟩;rw[eq,List.cons_append]at e2;rw[rg_pairs1 (by rw[eq,List.cons_append];exact e2) (by decide),←List.cons_append,←eq];have:=pairs_run depth e (inn+1) (999-d+1) (999-d) indent (fun p=>wrD indent false d (ims p)) hi2 r ps p 1 f [] [] (fun q hq=>⟨(h q hq).1,ih d q.2 (h q hq).2 (by omega)⟩) BL_nil (by simp only[List.length_append,List.length_cons,List.length_nil]at hf ⊢;omega);rw[List.nil_append,List.nil_append]at this;rw[this,nestV,objI,List.length_cons,Nat.add_comm 1]
theorem read_back (w:World) {depth:Nat} {indent:Int} {l:List It} (h:Vl depth l) (hd:depth≤1000):psFin (psRun (ps0 depth) (wrD indent false 1000 (ims l)))=(l,0,(wrD indent false 1000 (ims l)).length):=by
 have h1:=read_back1 w depth indent depth 1000 l h hd 0 (4*(wrD indent false 1000 (ims l)).length+1) [] [] (by omega) (.inl rfl) BL_nil (by simp);rw[List.nil_append,List.append_nil]at h1;have h2:=read_run depth (wrD indent false 1000 (ims l));unfold readV at h2;rw[h1]at h2;exact h2.2
def wt (l:List It):Nat:=wgt (ims l)
theorem wt_nil:wt []=0:=rfl
theorem wt_cons (x:It) (l:List It):wt (x::l)=6*x.s.length+33000+wt l:=wgt_cons (toIm x) (ims l)
theorem wt_append (a b:List It):wt (a++b)=wt a+wt b:=by unfold wt;rw[ims_append,wgt_append]
def accW:Md→Nat
 |.valsGo _ acc=>wt acc
 |.pairsGo _ acc=>wt acc
 |_=>0
def RV.wtOk (b:Nat):RV→Prop
 |.ok _ new q=>wt new+33024*q.length≤b
 |_=>True
theorem RV.wtOk.mono {a b:Nat} {x:RV} (h:x.wtOk a) (hab:a≤b):x.wtOk b:=by
 cases x with
 |ok n new q=>exact Nat.le_trans h hab
 |wrong e q=>trivial
 |ended l=>trivial
theorem trRun_len (t:Tr) (k:Nat) (r s q:List UInt8) (ht:TrOk t k) (h:trRun t r=.ok s q):s.length+4*q.length≤4*(k+r.length):=by
 induction r generalizing t k with
 |nil=>cases h
 |cons c r ih=>
  rw[trRun]at h;cases hn:trNext t c with
  |error e=>rw[hn]at h;cases h
  |ok x=>
   obtain⟨t',b⟩:=x;rw[hn]at h;have hk:=trNext_ok ht hn;cases b with
   |true=>
    cases h;have:=hk.len;simp only[List.length_cons];omega
   |false=>
    have:=ih t' (k+1) hk h;simp only[List.length_cons];omega
theorem text_len {r s q:List UInt8} (h:trRun tr0 r=.ok s q):s.length+4*q.length≤4*r.length:=by
 have:=trRun_len tr0 0 r s q tr0_ok h;omega
theorem wordGo_lenW {w r q:List UInt8} {a:Unit} (h:wordGo w r=.ok a q):w.length+q.length=r.length:=by
 induction w generalizing r with
 |nil=>rw[wordGo]at h;cases h;simp
 |cons x w ih=>
  cases r with
  |nil=>rw[wordGo]at h;cases h
  |cons c r=>
   rw[wordGo]at h;split at h
   ·cases h
   ·have:=ih h
    simp only[List.length_cons];omega
theorem wordV_wt (k:Nat) (x:UInt8) (w r:List UInt8):(wordV k (x::w) r).wtOk (33024*r.length):=by
 unfold wordV;cases hx:wordGo (x::w) r with
 |ok a q=>
  have:=wordGo_lenW hx
  show wt [_]+33024*q.length≤_
  rw[wt_cons,wt_nil];simp only[List.length_cons,List.length_nil]at this ⊢;omega
 |wrong n q=>trivial
 |ended=>trivial
theorem numOut_wt (inn:Nat) (c:UInt8) (q:List UInt8):(numOut inn (c::q)).wtOk (33024*(c::q).length):=by
 unfold numOut;rw[tkRun];cases hn:nxt t0 c with
 |none=>
  simp only;rw[tokV_no (show¬Ends t0.st by unfold Ends;decide),if_pos (by decide)];trivial
 |some t'=>
  simp only;split
  ·trivial
  ·rename_i t q' hx
   split at hx
   ·cases hx
   have h:=tkRun_suf t' q;rw[hx]at h;have:=h.1.length_le;split
   ·trivial
   ·show wt [_]+33024*q'.length≤_
    rw[wt_cons,wt_nil];simp only[List.length_cons,List.length_nil];omega
  ·split
   ·show wt [_]+33024*0≤_
    rw[wt_cons,wt_nil];simp only[List.length_cons,List.length_nil];omega
   ·trivial
theorem nestV_wt {k b:Nat} {x:RV} (h:x.wtOk b):(nestV k x).wtOk (b+33024):=by
 cases x with
 |ok n its q=>
  have h:wt its+33024*q.length≤b:=h
  show wt (_::its)+33024*q.length≤b+33024
  rw[wt_cons];simp only[List.length_nil];omega
 |wrong e q=>trivial
 |ended l=>trivial
theorem textV_wt (r:List UInt8):(textV r).wtOk (33024*(r.length+1)):=by
 unfold textV;cases hx:trRun tr0 r with
 |ok a q=>
  have:=text_len hx
  show wt [_]+33024*q.length≤_
  rw[wt_cons,wt_nil];simp only;omega
 |wrong n q=>trivial
 |ended=>trivial
theorem rGo_wt (depth f inn:Nat) (m:Md) (r:List UInt8):(rGo depth f inn m r).wtOk (accW m+33024*r.length):=by
 induction f generalizing inn m r with
 |zero=>trivial
 |succ f ih=>
  have hs:=(skipB_suf r).length_le;rw[rGo.eq_def];cases m with
  |val=>
   simp only;cases hx:skipB r with
   |nil=>trivial
   |cons c q=>
    rw[hx]at hs;have hs2:q.length+1≤r.length:=hs;have hs3:33024*(c::q).length≤33024*r.length:=Nat.mul_le_mul_left _ hs;simp only[accW,Nat.zero_add]
    repeat' split
    ·exact(textV_wt q).mono (by omega)
    ·trivial
    ·exact(nestV_wt (ih _ _ _)).mono (by simp only[accW];omega)
    ·trivial
    ·exact(nestV_wt (ih _ _ _)).mono (by simp only[accW];omega)
    ·exact(numOut_wt _ _ _).mono hs3
    ·exact(wordV_wt _ _ _ _).mono hs3
    ·exact(wordV_wt _ _ _ _).mono hs3
    ·exact(wordV_wt _ _ _ _).mono hs3
    ·trivial
  |vals=>
   simp only;cases hx:skipB r with
   |nil=>trivial
   |cons c q=>
    rw[hx]at hs;have hs2:q.length+1≤r.length:=hs;simp only;split
    ·show wt []+33024*q.length≤_
     rw[wt_nil];simp only[accW];omega
    ·exact(ih _ _ _).mono (by simp only[accW,wt_nil,List.length_cons];omega)
  |pairs=>
   simp only;cases hx:skipB r with
   |nil=>trivial
   |cons c q=>
    rw[hx]at hs;have hs2:q.length+1≤r.length:=hs;simp only;split
    ·show wt []+33024*q.length≤_
     rw[wt_nil];simp only[accW];omega
    ·exact(ih _ _ _).mono (by simp only[accW,wt_nil,List.length_cons];omega)
  |valsGo n acc=>
   simp only;have h1:=ih inn .val r;cases hy:rGo depth f inn .val r with
   |wrong e q=>trivial
   |ended l=>trivial
   |ok a its p=>
    rw[hy]at h1;have h1:wt its+33024*p.length≤0+33024*r.length:=h1;have hs:=(skipB_suf p).length_le;simp only;cases hx:skipB p with
    |nil=>trivial
    |cons c q=>
     rw[hx]at hs;have hs2:q.length+1≤p.length:=hs;simp only
     repeat' split
     ·show wt (acc++its)+33024*q.length≤_
      rw[wt_append];simp only[accW];omega
     ·exact(ih _ _ _).mono (by simp only[accW,wt_append];omega)
     ·trivial
  |pairsGo n acc=>
   simp only;have h1:=ih inn .pair r;cases hy:rGo depth f inn .pair r with
   |wrong e q=>trivial
   |ended l=>trivial
   |ok a its p=>
    rw[hy]at h1;have h1:wt its+33024*p.length≤0+33024*r.length:=h1;have hs:=(skipB_suf p).length_le;simp only;cases hx:skipB p with
    |nil=>trivial
    |cons c q=>
     rw[hx]at hs;have hs2:q.length+1≤p.length:=hs;simp only
     repeat' split
     ·show wt (acc++its)+33024*q.length≤_
      rw[wt_append];simp only[accW];omega
     ·exact(ih _ _ _).mono (by simp only[accW,wt_append];omega)
     ·trivial
  |pair=>
   simp only;cases hx:skipB r with
   |nil=>trivial
   |cons c q=>
    rw[hx]at hs;have hs2:q.length+1≤r.length:=hs;simp only;split
    ·trivial
    ·cases hy:trRun tr0 q with
     |wrong e p=>trivial
     |ended=>trivial
     |ok s p=>
      have h1:=text_len hy;have hs3:=(skipB_suf p).length_le;simp only;cases hz:skipB p with
      |nil=>trivial
      |cons c2 q2=>
       rw[hz]at hs3;have hs4:q2.length+1≤p.length:=hs3;simp only;split
       ·trivial
       ·have h2:=ih inn .val q2
        cases hw:rGo depth f inn .val q2 with
        |wrong e p2=>trivial
        |ended l=>trivial
        |ok a its p2=>
         rw[hw]at h2;have h2:wt its+33024*p2.length≤0+33024*q2.length:=h2
         show wt (_::its)+33024*p2.length≤_
         rw[wt_cons];simp only[accW];omega
theorem readV_wt {d n:Nat} {l p:List UInt8} {its:List It} (h:readV d l=.ok n its p):wt its≤33024*l.length:=by
 unfold readV at h;have h1:=rGo_wt d (4*l.length+1) 0 .val l;cases hr:rGo d (4*l.length+1) 0 .val l with
 |wrong e q=>rw[hr]at h;cases h
 |ended l=>rw[hr]at h;cases h
 |ok a its' p'=>
  rw[hr]at h h1;have h1:wt its'+33024*p'.length≤0+33024*l.length:=h1;simp only at h;split at h
  ·cases h;omega
  ·cases h
theorem wt_parts (l:List It):33000*l.length≤wt l∧∀x,x∈ims l→6*x.s.length≤wt l:=by
 induction l with
 |nil=>exact⟨by simp[wt_nil],by simp[ims]⟩
 |cons y l ih=>
  rw[wt_cons];refine⟨by simp only[List.length_cons];omega,fun x hx=>?_⟩;have hx:x∈toIm y::ims l:=hx;rcases List.mem_cons.1 hx with rfl|hx
  ·show 6*y.s.length≤_;omega
  ·have:=ih.2 x hx;omega
def ws (l:List It):Nat:=(l.map (fun x=>x.s.length)).sum
theorem ws_nil:ws []=0:=rfl
theorem ws_cons (x:It) (l:List It):ws (x::l)=x.s.length+ws l:=by simp[ws]
theorem ws_append (a b:List It):ws (a++b)=ws a+ws b:=by simp[ws]
def accS:Md→Nat
 |.valsGo _ acc=>ws acc
 |.pairsGo _ acc=>ws acc
 |_=>0
def RV.wsOk (b:Nat):RV→Prop
 |.ok _ new q=>ws new+4*q.length≤b
 |_=>True
theorem RV.wsOk.mono {a b:Nat} {x:RV} (h:x.wsOk a) (hab:a≤b):x.wsOk b:=by
 cases x with
 |ok n new q=>exact Nat.le_trans h hab
 |wrong e q=>trivial
 |ended l=>trivial
theorem wordV_ws (k:Nat) (x:UInt8) (w r:List UInt8):(wordV k (x::w) r).wsOk (4*r.length):=by
 unfold wordV;cases hx:wordGo (x::w) r with
 |ok a q=>
  have:=wordGo_lenW hx
  show ws [_]+4*q.length≤_
  rw[ws_cons,ws_nil];simp only[List.length_cons,List.length_nil]at this ⊢;omega
 |wrong n q=>trivial
 |ended=>trivial
theorem numOut_ws (inn:Nat) (c:UInt8) (q:List UInt8):(numOut inn (c::q)).wsOk (4*(c::q).length):=by
 unfold numOut;rw[tkRun];cases hn:nxt t0 c with
 |none=>
  simp only;rw[tokV_no (show¬Ends t0.st by unfold Ends;decide),if_pos (by decide)];trivial
 |some t'=>
  simp only;split
  ·trivial
  ·rename_i t q' hx
   split at hx
   ·cases hx
   have h:=tkRun_suf t' q;rw[hx]at h;have:=h.1.length_le;split
   ·trivial
   ·show ws [_]+4*q'.length≤_
    rw[ws_cons,ws_nil];simp only[List.length_cons,List.length_nil];omega
  ·split
   ·show ws [_]+4*0≤_
    rw[ws_cons,ws_nil];simp only[List.length_cons,List.length_nil];omega
   ·trivial
theorem nestV_ws {k b:Nat} {x:RV} (h:x.wsOk b):(nestV k x).wsOk (b+4):=by
 cases x with
 |ok n its q=>
  have h:ws its+4*q.length≤b:=h
  show ws (_::its)+4*q.length≤b+4
  rw[ws_cons];simp only[List.length_nil];omega
 |wrong e q=>trivial
 |ended l=>trivial
theorem textV_ws (r:List UInt8):(textV r).wsOk (4*(r.length+1)):=by
 unfold textV;cases hx:trRun tr0 r with
 |ok a q=>
  have:=text_len hx
  show ws [_]+4*q.length≤_
  rw[ws_cons,ws_nil];simp only;omega
 |wrong n q=>trivial
 |ended=>trivial
theorem rGo_ws (depth f inn:Nat) (m:Md) (r:List UInt8):(rGo depth f inn m r).wsOk (accS m+4*r.length):=by
 induction f generalizing inn m r with
 |zero=>trivial
 |succ f ih=>
  have hs:=(skipB_suf r).length_le;rw[rGo.eq_def];cases m with
  |val=>
   simp only;cases hx:skipB r with
   |nil=>trivial
   |cons c q=>
    rw[hx]at hs;have hs2:q.length+1≤r.length:=hs;have hs3:4*(c::q).length≤4*r.length:=Nat.mul_le_mul_left _ hs;simp only[accS,Nat.zero_add]
    repeat' split
    ·exact(textV_ws q).mono (by omega)
    ·trivial
    ·exact(nestV_ws (ih _ _ _)).mono (by simp only[accS];omega)
    ·trivial
    ·exact(nestV_ws (ih _ _ _)).mono (by simp only[accS];omega)
    ·exact(numOut_ws _ _ _).mono hs3
    ·exact(wordV_ws _ _ _ _).mono hs3
    ·exact(wordV_ws _ _ _ _).mono hs3
    ·exact(wordV_ws _ _ _ _).mono hs3
    ·trivial
  |vals=>
   simp only;cases hx:skipB r with
   |nil=>trivial
   |cons c q=>
    rw[hx]at hs;have hs2:q.length+1≤r.length:=hs;simp only;split
    ·show ws []+4*q.length≤_
     rw[ws_nil];simp only[accS];omega
    ·exact(ih _ _ _).mono (by simp only[accS,ws_nil,List.length_cons];omega)
  |pairs=>
   simp only;cases hx:skipB r with
   |nil=>trivial
   |cons c q=>
    rw[hx]at hs;have hs2:q.length+1≤r.length:=hs;simp only;split
    ·show ws []+4*q.length≤_
     rw[ws_nil];simp only[accS];omega
    ·exact(ih _ _ _).mono (by simp only[accS,ws_nil,List.length_cons];omega)
  |valsGo n acc=>
   simp only;have h1:=ih inn .val r;cases hy:rGo depth f inn .val r with
   |wrong e q=>trivial
   |ended l=>trivial
   |ok a its p=>
    rw[hy]at h1;have h1:ws its+4*p.length≤0+4*r.length:=h1;have hs:=(skipB_suf p).length_le;simp only;cases hx:skipB p with
    |nil=>trivial
    |cons c q=>
     rw[hx]at hs;have hs2:q.length+1≤p.length:=hs;simp only
     repeat' split
     ·show ws (acc++its)+4*q.length≤_
      rw[ws_append];simp only[accS];omega
     ·exact(ih _ _ _).mono (by simp only[accS,ws_append];omega)
     ·trivial
  |pairsGo n acc=>
   simp only;have h1:=ih inn .pair r;cases hy:rGo depth f inn .pair r with
   |wrong e q=>trivial
   |ended l=>trivial
   |ok a its p=>
    rw[hy]at h1;have h1:ws its+4*p.length≤0+4*r.length:=h1;have hs:=(skipB_suf p).length_le;simp only;cases hx:skipB p with
    |nil=>trivial
    |cons c q=>
     rw[hx]at hs;have hs2:q.length+1≤p.length:=hs;simp only
     repeat' split
     ·show ws (acc++its)+4*q.length≤_
      rw[ws_append];simp only[accS];omega
     ·exact(ih _ _ _).mono (by simp only[accS,ws_append];omega)
     ·trivial
  |pair=>
   simp only;cases hx:skipB r with
   |nil=>trivial
   |cons c q=>
    rw[hx]at hs;have hs2:q.length+1≤r.length:=hs;simp only;split
    ·trivial
    ·cases hy:trRun tr0 q with
     |wrong e p=>trivial
     |ended=>trivial
     |ok s p=>
      have h1:=text_len hy;have hs3:=(skipB_suf p).length_le;simp only;cases hz:skipB p with
      |nil=>trivial
      |cons c2 q2=>
       rw[hz]at hs3;have hs4:q2.length+1≤p.length:=hs3;simp only;split
       ·trivial
       ·have h2:=ih inn .val q2
        cases hw:rGo depth f inn .val q2 with
        |wrong e p2=>trivial
        |ended l=>trivial
        |ok a its p2=>
         rw[hw]at h2;have h2:ws its+4*p2.length≤0+4*q2.length:=h2
         show ws (_::its)+4*p2.length≤_
         rw[ws_cons];simp only[accS];omega
theorem readV_ws {d n:Nat} {l p:List UInt8} {its:List It} (h:readV d l=.ok n its p):ws its≤4*l.length:=by
 unfold readV at h;have h1:=rGo_ws d (4*l.length+1) 0 .val l;cases hr:rGo d (4*l.length+1) 0 .val l with
 |wrong e q=>rw[hr]at h;cases h
 |ended l=>rw[hr]at h;cases h
 |ok a its' p'=>
  rw[hr]at h h1;have h1:ws its'+4*p'.length≤0+4*l.length:=h1;simp only at h;split at h
  ·cases h;omega
  ·cases h
theorem ws_mem (l:List It):∀x,x∈ims l→x.s.length≤ws l:=by
 induction l with
 |nil=>simp[ims]
 |cons y l ih=>
  intro x hx;rw[ws_cons];have hx:x∈toIm y::ims l:=hx;rcases List.mem_cons.1 hx with rfl|hx
  ·show y.s.length≤_;omega
  ·have:=ih x hx;omega
end Go.Proofs.YtmkkibaacclhnaaGreatDoor
