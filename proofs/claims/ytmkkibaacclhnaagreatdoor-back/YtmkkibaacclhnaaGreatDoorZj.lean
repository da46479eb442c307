/-
  A step of the walk, the part named Zj. No theorem of the row.
-/
import Derived.Test.YtmkkibaacclhnaaGreatDoorYe
import Derived.Test.YtmkkibaacclhnaaGreatDoorQgh
import Derived.Handy
import Derived.Test.YtmkkibaacclhnaaGreatDoorZg
import Derived.Test.YtmkkibaacclhnaaGreatDoorZh
namespace Go.Proofs.YtmkkibaacclhnaaGreatDoor
open Go.RowKit
set_option maxRecDepth 100000
set_option maxHeartbeats 16000000
theorem ims_V (l:List It):imsV (ims l)=itsV l:=by
 induction l with
 |nil=>rfl
 |cons x l ih=>
  show imC (toIm x)++imsV (ims l)=_
  rw[ih];rfl
def TR (w:World) (pa:Option Addr) (cs:List (List UInt8)):Prop:=cs≠[]→∃ad,pa=some ad∧ad.block<w.heap.size∧∀i s,cs[i]? =some s→w.cell? (ad.add i)=some (.string (ofL s))
theorem TR.fr {w w':World} {pa:Option Addr} {cs:List (List UInt8)} (h:TR w pa cs) (hf:Fr (fun _=>False) w w'):TR w' pa cs:=by
 intro hl;obtain⟨ad,h1,h2,h3⟩:=h hl;exact⟨ad,h1,Nat.lt_of_lt_of_le h2 hf.size,fun i s hs=>by rw[hf.cell (p:=ad.add i) (by rw[add_block];exact h2) id];exact h3 i s hs⟩
theorem psFin_value {d:Nat} {l:List UInt8} (h:(psFin (psRun (ps0 d) l)).2.1=0):(psFin (psRun (ps0 d) l)).1≠[]∧sizeD d (ims (psFin (psRun (ps0 d) l)).1)=(psFin (psRun (ps0 d) l)).1.length∧Bok (ims (psFin (psRun (ps0 d) l)).1):=by
 have hr:=read_run d l;cases hv:readV d l with
 |ok n its p=>
  rw[hv]at hr;simp only at hr;rw[hr.2];exact readV_good hv
 |wrong n p=>
  rw[hv]at hr;simp only at hr;exfalso;have h2:=(psRun_err hr).1;rw[hr]at h;exact h2 h
 |ended late=>
  rw[hv]at hr;simp only at hr;rw[hr.2]at h;exfalso;cases late<;>cases h
theorem psFin_wt {d:Nat} {l:List UInt8} (h:(psFin (psRun (ps0 d) l)).2.1=0):wt (psFin (psRun (ps0 d) l)).1≤33024*l.length:=by
 have hr:=read_run d l;cases hv:readV d l with
 |ok n its p=>
  rw[hv]at hr;simp only at hr;rw[hr.2];exact readV_wt hv
 |wrong n p=>
  rw[hv]at hr;simp only at hr;exfalso;have h2:=(psRun_err hr).1;rw[hr]at h;exact h2 h
 |ended late=>
  rw[hv]at hr;simp only at hr;rw[hr.2]at h;exfalso;cases late<;>cases h
theorem psFin_ws {d:Nat} {l:List UInt8} (h:(psFin (psRun (ps0 d) l)).2.1=0):ws (psFin (psRun (ps0 d) l)).1≤4*l.length:=by
 have hr:=read_run d l;cases hv:readV d l with
 |ok n its p=>
  rw[hv]at hr;simp only at hr;rw[hr.2];exact readV_ws hv
 |wrong n p=>
  rw[hv]at hr;simp only at hr;exfalso;have h2:=(psRun_err hr).1;rw[hr]at h;exact h2 h
 |ended late=>
  rw[hv]at hr;simp only at hr;rw[hr.2]at h;exfalso;cases late<;>cases h
noncomputable def fAns (depth indent:Int) (so:Bool) (l:List UInt8):List UInt8×Int×Nat:=
 if depth<1∨1000<depth∨indent< -1∨16<indent then([],1,0)
 else if(psFin (psRun (ps0 depth.toNat) l)).2.1≠0 then([],((psFin (psRun (ps0 depth.toNat) l)).2.1:Int),(psFin (psRun (ps0 depth.toNat) l)).2.2)
 else(wrD indent so 1000 (ims (psFin (psRun (ps0 depth.toNat) l)).1),0,(psFin (psRun (ps0 depth.toNat) l)).2.2)
theorem wAns_fin {d:Nat} {l:List UInt8} {indent:Int} {so:Bool} (hd:d≤1000) (hi:¬(indent< -1∨16<indent)) (h:(psFin (psRun (ps0 d) l)).2.1=0):wAns (ims (psFin (psRun (ps0 d) l)).1) indent so=(wrD indent so 1000 (ims (psFin (psRun (ps0 d) l)).1),0):=by
 obtain⟨h1,h2,_⟩:=psFin_value h;have h3:sizeD d (ims (psFin (psRun (ps0 d) l)).1)≠0:=by rw[h2];simpa using h1
 have h4:sizeD 1000 (ims (psFin (psRun (ps0 d) l)).1)=(ims (psFin (psRun (ps0 d) l)).1).length:=by rw[sizeD_ups d 1000 _ h3 hd,h2,ims_length]
 unfold wAns;rw[if_neg hi,if_neg];rintro(h|h)
 ·rw[sizeD_ups d 1000 _ h3 hd]at h;exact h3 h
 ·exact h h4
def joinC (cs:List (List UInt8)):List UInt8:=cs.flatten
theorem join_take {cs:List (List UInt8)} {i:Nat} {s:List UInt8} (h:cs[i]? =some s):joinC (cs.take (i+1))=joinC (cs.take i)++s:=by
 have hl:=(List.getElem?_eq_some_iff.1 h).1;have he:=(List.getElem?_eq_some_iff.1 h).2;unfold joinC;rw[List.take_succ_eq_append_getElem hl,he,List.flatten_append];simp
theorem join_le (cs:List (List UInt8)) (i:Nat):(joinC (cs.take i)).length≤(joinC cs).length:=by
 unfold joinC
 conv=>rhs;rw[←List.take_append_drop i cs,List.flatten_append,List.length_append]
 omega
theorem Rd.frm {B:Nat} {S:Nat→Prop} {w0 w:World} {R:Except (Nat×Nat) Ps} (h:Rd B S w0 w R):Fr S w0 w:=by
 cases R with
 |error x=>obtain⟨n,c⟩:=x;exact h.2
 |ok s=>obtain⟨vi,vo,vt,vm,⟨_,hF,_⟩,_⟩:=h;exact hF
theorem TR.at_ {w:World} {ad:Addr} {cs:List (List UInt8)} (h:TR w (some ad) cs) {i:Nat} {s:List UInt8} (hs:cs[i]? =some s):w.cell? (ad.add i)=some (.string (ofL s)):=by
 obtain⟨ad',h1,_,h3⟩:=h (by rintro rfl;simp at hs);obtain rfl:ad=ad':=by simpa using h1
 exact h3 i s hs
theorem res42h {w2:World} {g:Nat} {v0 v1 v2:Value} (h:w2.heap[g]? =some (.cells #[v0,v1,v2] 42 (0,0))) (a b c:Value):(((w2.setCell ⟨g,0,none⟩ a).setCell ⟨g,1,none⟩ b).setCell ⟨g,2,none⟩ c).heap[g]? =some (.cells #[a,b,c] 42 (0,0)):=by
 have h1:=heap_setCell_same w2 g 0 _ 42 a h;have h2:=heap_setCell_same _ g 1 _ 42 b h1;exact heap_setCell_same _ g 2 _ 42 c h2
theorem fmt_ok (w:World) (pa:Option Addr) (cap d:Nat) (cs:List (List UInt8)) (indent:Int) (so:Bool) (h:TR w pa cs) (hT:Tabs w) (hd1:1≤d) (hd2:d≤1000) (hi1: -1≤indent) (hi2:indent≤16) (hl:(joinC cs).length≤1400000) (hn:cs.length≤10000000):
 Calls Tryz.prog 16 #[.slice pa cs.length cap,.int .i64 (d:Int),.int .i64 indent,.bool so] w fun e w'=>e=.returned (.agg #[.string (ofL (fAns d indent so (joinC cs)).1),.int .i64 (fAns d indent so (joinC cs)).2.1,.int .i64 ((fAns d indent so (joinC cs)).2.2:Int)])∧Fr (fun _=>False) w w':=by
 obtain⟨AN,hAN⟩:∃AN,fAns d indent so (joinC cs)=AN:=⟨_,rfl⟩;rw[hAN];have HAN:=hid hAN;have HN:=hid (fun w=>newParser_any d hd1 hd2 w);have HM:=hid (fun w=>may_yes indent w hi1 hi2);have HTR:=hid h;have HTB:=hid hT;have HFD:=hid (fun (B:Nat) (w0 wx:World) (l a:List UInt8) (hx:l.length+a.length≤1500000) (hr:Rd B (fun _=>False) w0 wx (psRun (ps0 d) l))=>feed_any B d (fun _=>False) w0 wx l a hd1 hd2 hx hr);have HCL:=hid (fun (B:Nat) (w0 wx:World) (hB:w0.heap.size≤B) (hr:Rd B (fun _=>False) w0 wx (psRun (ps0 d) (joinC cs)))=>close_any B d (fun _=>False) w0 wx (joinC cs) hd1 hd2 (by omega) (.inr hB) hr);have HR0:=hid (fun w1=>rd_new d w1);have HLE:=hid hl;clear h hT hAN hl;obtain⟨n,hnn⟩:∃n,cs.length=n:=⟨_,rfl⟩;rw[hnn]at hn ⊢;go_enter Tryz.func16,Tryz.ntmps16
 go_wp2_with (first|(go_at_call 30;refine Calls.mono (HN.out _) ?_;rintro e w2 ⟨rfl,rfl⟩)|(go_at_call 24;refine Calls.mono (HM.out _) ?_;rintro e w2 ⟨rfl,hw2⟩;subst hw2)|fail)
 have HS1:Hid ((w.alloc (.cells #[.string ⟨#[]⟩,.int .i64 0,.int .i64 0] 42)).heap.size=w.heap.size+1):=hid (by simp);have HR1:=HR0.out (w.alloc (.cells #[.string ⟨#[]⟩,.int .i64 0,.int .i64 0] 42));rw[HS1.out]at HR1;have HR2:=hid HR1;clear HR1 HR0
 go_loopw [31] (fun iv wr=>∃i:Nat,iv=.int .i64 (i:Int)∧i≤n∧Hid (Rd (w.heap.size+1) (fun _=>False) (w.alloc (.cells #[.string ⟨#[]⟩,.int .i64 0,.int .i64 0] 42)) wr (psRun (ps0 d) (joinC (cs.take i))))) (fun iv _=>n-(intOf iv).toNat)
 case atStart=>exact⟨0,rfl,Nat.zero_le _,HR2⟩
 case round=>
  clear HR2 HN HM;obtain⟨i,rfl,hin,hR⟩:=hrel;have HFr:=hid (((Fr.refl (fun _=>False) w).alloc (.cells #[.string ⟨#[]⟩,.int .i64 0,.int .i64 0] 42)).trans hR.out.frm);by_cases hi:i<n
  ·have hz:(i:Int)<(n:Int):=by omega
   obtain⟨s,hs⟩:∃s,cs[i]? =some s:=⟨_,List.getElem?_eq_getElem (by omega)⟩;obtain⟨ad,hpa,-⟩:=HTR.out (by rintro rfl;simp at hs);subst hpa;have c0:=(HTR.out.fr HFr.out).at_ hs;have hjt:=join_take hs;have hjl:=join_le cs (i+1);rw[hjt,List.length_append]at hjl;have HC:=hid (HFD.out _ _ wr (joinC (cs.take i)) s (by have:=HLE.out;omega) hR.out);rw[←hjt]at HC;clear hs hjt hjl
   go_wp2_with (first|(go_at_call 31;refine Calls.mono HC.out ?_;rintro e w2 ⟨rfl,hr⟩;have HR3:=hid hr;clear hr)|fail)
   go_roundw
   case rel=>exact⟨i+1,by simp,by omega,HR3⟩
   case measure=>simp only[intOf];omega
  ·obtain rfl:i=n:=by omega
   have hz:¬(i:Int)<(i:Int):=by omega
   have hall:cs.take i=cs:=List.take_of_length_le (by omega);have hR2:=hR.out;rw[hall]at hR2;have HC:=hid (HCL.out _ _ wr (by rw[HS1.out];exact Nat.le_refl _) hR2);obtain⟨FIN,hFIN⟩:∃FIN,psFin (psRun (ps0 d) (joinC cs))=FIN:=⟨_,rfl⟩;have HFIN:=hid hFIN;rw[hFIN]at HC;clear hFIN hR2 hR hall HCL HFD
   go_wp2_with fail
   refine Calls.mono HC.out ?_;rintro e w3 ⟨V,rfl,hrow,-,hF3⟩;have HF3:=hid (((Fr.refl (fun _=>False) w).alloc (.cells #[.string ⟨#[]⟩,.int .i64 0,.int .i64 0] 42)).trans hF3);have hh:=hF3.heap (heap_alloc_new w (.cells #[.string ⟨#[]⟩,.int .i64 0,.int .i64 0] 42)) id;have r0:w3.cell? ⟨w.heap.size,0,none⟩=some (.string ⟨#[]⟩):=blk_cell hh rfl;have r1:w3.cell? ⟨w.heap.size,1,none⟩=some (.int .i64 0):=blk_cell hh rfl;have r2:w3.cell? ⟨w.heap.size,2,none⟩=some (.int .i64 0):=blk_cell hh rfl;have rf:∀j,w3.frozen? ⟨w.heap.size,j,none⟩=false:=fun _=>blk_free hh
   have HRES:=hid (fun a b c=>res42h hh a b c);have HHH:=hid hh;have HROW:=hid hrow;clear hrow hF3 hh HC;by_cases hE:FIN.2.1=0
   ·have hE2:((FIN.2.1:Int)!=0)=false:=by simp[hE]
    have hE3:(psFin (psRun (ps0 d) (joinC cs))).2.1=0:=by rw[HFIN.out];exact hE
    have hwa:=wAns_fin (so:=so) hd2 (show¬(indent< -1∨16<indent) by omega) hE3;have hwt:=psFin_wt hE3;have hws:=psFin_ws hE3;have hsm:=ws_mem FIN.1;obtain⟨v1,v2,v3⟩:=psFin_value hE3;rw[HFIN.out]at hwa hwt hws v1 v2 v3;obtain⟨p1,p2⟩:=wt_parts FIN.1;have hll:=HLE.out;obtain⟨va,vn,vc,rfl⟩:=row_shape3 HROW.out;have hvn:=slice_len HROW.out;have hpos:0<FIN.1.length:=by cases hq:FIN.1 with|nil=>exact absurd hq v1|cons _ _=>simp
    obtain⟨g,rfl⟩:=row_some HROW.out (by omega)
    have hItA:ItAt w3 (.slice (some ⟨g,0,none⟩) (ims FIN.1).length vc) (ims FIN.1):=by
     unfold ItAt;rw[ims_V,ims_length];rw[hvn]at HROW;exact HROW.out
    have HPW:=hid (pwrite_any w3 g vc (ims FIN.1) indent so hItA (HTB.out.fr HF3.out id id) (by rw[ims_length];omega) (fun x hx=>by have:=hsm x hx;omega) v3 (by show wt FIN.1≤_;omega));rw[hwa,ims_length,←hvn]at HPW
    have HA:=hid (show AN=(wrD indent so 1000 (ims FIN.1),0,FIN.2.2) by
     rw[←HAN.out];unfold fAns
     rw[if_neg (by omega),Int.toNat_natCast,HFIN.out,if_neg (by omega)])
    generalize wrD indent so 1000 (ims FIN.1)=TX at*;generalize FIN.2.1=E at*;generalize FIN.2.2=A at*;subst hE;clear hwa hwt hws hsm v1 v2 v3 p1 p2 hll hItA hpos hvn HROW hE3
    go_wp2_with fail
    refine Calls.mono HPW.out ?_;rintro e w4 ⟨rfl,hF4⟩;have hh4:=hF4.heap HHH.out id;have q0:w4.cell? ⟨w.heap.size,0,none⟩=some (.string ⟨#[]⟩):=blk_cell hh4 rfl;have q1:w4.cell? ⟨w.heap.size,1,none⟩=some (.int .i64 0):=blk_cell hh4 rfl;have q2:w4.cell? ⟨w.heap.size,2,none⟩=some (.int .i64 0):=blk_cell hh4 rfl;have qf:∀j,w4.frozen? ⟨w.heap.size,j,none⟩=false:=fun _=>blk_free hh4
    have HRES4:=hid (fun a b c=>res42h hh4 a b c);have HF4:=hid (HF3.out.trans hF4);clear hh4 hF4 r0 r1 r2 rf HRES HHH HPW;go_wp2
    (try simp only[Exit.inBlock,Exit.then])
    refine bodyPost_ret (v:=.agg #[.string (ofL TX),.int .i64 0,.int .i64 (A:Int)]) (results_cell_row rfl _ _ w.heap.size 42 _ (0,0) _ rfl (HRES4.out _ _ _) Tryz.underlying42 rfl (by kernel_rfl)) rfl ?_;rw[HA.out];exact⟨rfl,three_set HF4.out _ _ _⟩
   ·have hE2:((FIN.2.1:Int)!=0)=true:=by simp[hE]
    have HA:=hid (show AN=([],(FIN.2.1:Int),FIN.2.2) by
     rw[←HAN.out];unfold fAns
     rw[if_neg (by omega),Int.toNat_natCast,HFIN.out,if_pos hE])
    generalize FIN.2.1=E at*;generalize FIN.2.2=A at*;clear hE;go_wp2
    (try simp only[Exit.inBlock,Exit.then])
    refine bodyPost_ret (v:=.agg #[.string ⟨#[]⟩,.int .i64 (E:Int),.int .i64 (A:Int)]) (results_cell_row rfl _ _ w.heap.size 42 _ (0,0) _ rfl (HRES.out _ _ _) Tryz.underlying42 rfl (by kernel_rfl)) rfl ?_;rw[HA.out];exact⟨rfl,three_set HF3.out _ _ _⟩
theorem line_le {indent:Int} (h:indent≤16) {n:Nat} (hn:n≤9):(lineL indent n).length≤145:=by
 unfold lineL;split
 ·simp
 ·have:=Nat.mul_le_mul (show indent.toNat≤16 by omega) hn
  rw[List.length_cons,List.length_replicate];omega
theorem sum_le {α:Type} (c:Nat) (f g:α→Nat) (ps:List α) (h:∀p,p∈ps→f p+c≤g p):(ps.map f).sum+ps.length*c≤(ps.map g).sum:=by
 induction ps with
 |nil=>simp
 |cons p ps ih=>
  have h1:=h p (by simp);have h2:=ih fun q hq=>h q (by simp[hq])
  simp only[List.map_cons,List.sum_cons,List.length_cons,Nat.add_mul,Nat.one_mul];omega
theorem lw_flat (ps:List (List It)):lw ps.flatten=(ps.map lw).sum:=by
 induction ps with
 |nil=>rfl
 |cons p ps ih=>rw[List.flatten_cons,lw_append,ih,List.map_cons,List.sum_cons]
theorem lw_pairs (ps:List (List UInt8×List It)):lw (ps.flatMap pairI)=(ps.map fun p=>6*p.1.length+500+lw p.2).sum:=by
 induction ps with
 |nil=>rfl
 |cons p ps ih=>
  rw[List.flatMap_cons,lw_append,ih,List.map_cons,List.sum_cons];rfl
theorem joinL_le {indent:Int} (hi:indent≤16) {inn:Nat} (hn:inn+1≤9) (obj:Bool) (ps:List (List UInt8)):(joinL indent inn obj ps).length≤(ps.map (·.length)).sum+ps.length*146+146:=by
 rw[joinL_lenE];have h1:=line_le hi hn;have h2:=line_le hi (show inn≤9 by omega);have h3:=Nat.mul_le_mul (Nat.le_refl ps.length) (show(lineL indent (inn+1)).length+1≤146 by omega);split<;>omega
theorem lf_len (w:World) {x:It} (h:Lf x):(leafT (toIm x)).length+300≤lw [x]:=by
 rcases lf_shape h with(rfl|rfl|rfl)|⟨b,rfl,hb,hf⟩|⟨s,rfl,_⟩
 ·decide
 ·decide
 ·decide
 ·have:=printT_len w b hb hf
  show(printT b).length+300≤6*0+500+0
  omega
 ·have:=quote_len s
  show(quoteL s).length+300≤6*s.length+500+0
  unfold quoteL;rw[List.length_cons,List.length_append,List.length_singleton];omega
theorem Vl.len (w:World) {indent:Int} (hi:indent≤16) (e:Nat):∀(d:Nat) (l:List It),Vl e l→e≤d→1000-d+e≤9→(wrD indent false d (ims l)).length+300≤lw l:=by
 induction e with
 |zero=>rintro d l ⟨x,rfl,h⟩ _ _;rw[wr_lf _ _ _ h];exact lf_len w h
 |succ e ih=>
  rintro d l (⟨x,rfl,h⟩|⟨ps,rfl,h⟩|⟨ps,rfl,h⟩) hd hb
  ·rw[wr_lf _ _ _ h];exact lf_len w h
  ·obtain⟨d,rfl⟩:∃d',d=d'+1:=⟨d-1,by omega⟩
   rw[wr_ar indent false h (by omega)];have h1:=joinL_le hi (inn:=999-d) (by omega) false (ps.map fun p=>wrD indent false d (ims p));have h2:=sum_le 300 (fun p=>(wrD indent false d (ims p)).length) lw ps (fun p hp=>ih d p (h p hp) (by omega) (by omega));rw[List.map_map,List.length_map]at h1
   have h3:lw (arrI ps)=500+(ps.map lw).sum:=by
    rw[←lw_flat]
    show 6*0+500+lw ps.flatten=_
    omega
   have h4:(ps.map ((fun x=>x.length)∘fun p=>wrD indent false d (ims p))).sum=(ps.map fun p=>(wrD indent false d (ims p)).length).sum:=rfl;omega
  ·obtain⟨d,rfl⟩:∃d',d=d'+1:=⟨d-1,by omega⟩
   rw[wr_ob indent false h (by omega),ordL_false,List.map_map];have h1:=joinL_le hi (inn:=999-d) (by omega) true (ps.map ((fun x=>x.2)∘fun p=>(p.1,headL indent p.1++wrD indent false d (ims p.2))))
   have h2:=sum_le 300 (fun p:List UInt8×List It=>(headL indent p.1++wrD indent false d (ims p.2)).length) (fun p=>6*p.1.length+500+lw p.2) ps (fun p hp=>by
    have q1:=ih d p.2 (h p hp).2 (by omega) (by omega);have q2:=quote_len p.1;have q3:(if indent= -1 then[]else[32]:List UInt8).length≤1:=by split<;>simp
    simp only[headL,quoteL,List.length_append,List.length_cons,List.length_nil]
    omega)
   rw[List.map_map,List.length_map]at h1
   have h3:lw (objI ps)=500+(ps.map fun p=>6*p.1.length+500+lw p.2).sum:=by
    rw[←lw_pairs]
    show 6*0+500+lw (ps.flatMap pairI)=_
    omega
   have h4:(ps.map ((fun x=>x.length)∘((fun x=>x.2)∘fun p=>(p.1,headL indent p.1++wrD indent false d (ims p.2))))).sum=(ps.map fun p:List UInt8×List It=>(headL indent p.1++wrD indent false d (ims p.2)).length).sum:=rfl;exact Nat.le_trans (Nat.add_le_add_right h1 300) (by omega)
theorem fAns_back (w:World) {l:List It} (h:Vl 9 l) {ind:Int} (so:Bool) (hi:¬(ind< -1∨16<ind)):fAns 9 ind so (wrD ind false 1000 (ims l))=(wrD ind so 1000 (ims l),0,(wrD ind false 1000 (ims l)).length):=by
 unfold fAns;rw[if_neg (by omega),show(9:Int).toNat=9 from rfl,read_back w h (by omega)];simp
theorem wAns_back {l:List It} (h:Vl 9 l) {ind:Int} (hi:¬(ind< -1∨16<ind)):wAns (ims l) ind false=(wrD ind false 1000 (ims l),0):=by
 have hs:=h.size (show 9≤1000 by omega) [];rw[List.append_nil]at hs;have h0:l.length≠0:=by simpa using h.ne
 unfold wAns;rw[if_neg hi,if_neg (by rw[hs,ims_length];omega)]
theorem lw_mem (l:List It):500*l.length≤lw l∧wgt (ims l)≤66*lw l∧∀x,x∈ims l→x.s.length≤lw l:=by
 induction l with
 |nil=>exact⟨by simp,by simp[wgt,ims],fun x hx=>by simp[ims]at hx⟩
 |cons y l ih=>
  obtain⟨a,b,c⟩:=ih;have e:lw (y::l)=6*y.s.length+500+lw l:=by simp[lw]
  refine⟨by rw[e,List.length_cons];omega,?_,fun x hx=>?_⟩
  ·have:wgt (ims (y::l))=6*y.s.length+33000+wgt (ims l):=wgt_cons (toIm y) (ims l)
   rw[this,e];omega
  ·rw[e]
   rcases List.mem_cons.1 hx with rfl|hx
   ·show y.s.length≤_;omega
   ·have:=c x hx;omega
theorem one_text (w:World) (s:List UInt8):TR (w.alloc (.cells #[.string (ofL s)] 9)) (some ⟨w.heap.size,0,none⟩) [s]:=by
 intro _;refine⟨_,rfl,by simp,fun i x hx=>?_⟩;cases i with
 |zero=>simp at hx;subst hx;exact blk_cell (heap_alloc_new w _) rfl
 |succ i=>simp at hx
theorem fmt_one (w:World) (s T:List UInt8) (at':Nat) (ind:Int) (so:Bool) (hT:Tabs w) (hl:s.length≤1400000) (hi:¬(ind< -1∨16<ind)) (ha:fAns 9 ind so s=(T,0,at')):
 Calls Tryz.prog 16 #[.slice (some ⟨w.heap.size,0,none⟩) 1 1,.int .i64 9,.int .i64 ind,.bool so] (w.alloc (.cells #[.string (ofL s)] 9)) fun e w'=>e=.returned (.agg #[.string (ofL T),.int .i64 0,.int .i64 (at':Int)])∧Fr (fun _=>False) w w':=by
 have hF:=(Fr.refl (fun _=>False) w).alloc (.cells #[.string (ofL s)] 9);have hj:joinC [s]=s:=by simp[joinC]
 have:=fmt_ok (w.alloc (.cells #[.string (ofL s)] 9)) (some ⟨w.heap.size,0,none⟩) 1 9 [s] ind so (one_text w s) (hT.fr hF id id) (by omega) (by omega) (by omega) (by omega) (by rw[hj];exact hl) (by simp);rw[hj,show((9:Nat):Int)=9 from rfl,ha]at this;exact this.mono fun e w' ⟨h1,h2⟩=>⟨h1,hF.trans h2⟩
theorem back_any (w:World) (pr:Option Addr) (n cap:Nat) (c p:Int) (hR:RawR w pr n) (hT:Tabs w) (c1: -9223372036854775808≤c) (c2:c<9223372036854775808) (p1: -9223372036854775808≤p) (p2:p<9223372036854775808):
 Calls Tryz.prog 4 #[.slice pr n cap,.int .i64 c,.int .i64 p] w fun e w'=>e=.returned (.bool true)∧Fr (fun _=>False) w w':=by
 have HR:=hid hR;have HT:=hid hT;have HC:=hid (And.intro c1 (And.intro c2 (And.intro p1 p2)));clear hR hT c1 c2 p1 p2;go_enter Tryz.func4,Tryz.ntmps4
 go_wp2_with fail
 refine(known_any _).mono ?_;rintro e w1 ⟨rfl,hF1⟩;have HF1:=hid hF1;clear hF1
 go_wp2_with fail
 have HB0:=hid (show BC w1.heap.size w (fun i=>i=w1.heap.size∨(Value.slice none 0 0).ownBlock=some i) (w1.alloc (.cells #[.slice pr n cap,.int .i64 0,.slice none 0 0] 35)) (.slice pr n cap) (.slice none 0 0) (w1.alloc (.cells #[.slice pr n cap,.int .i64 0,.slice none 0 0] 35)) 0 []from
  ⟨heap_alloc_new w1 _,World.ownsRow_nil _ _ _ _,HF1.out.alloc _,HF1.out.size,(fun i hi=>by cases hi),Fr.refl _ _,.inl rfl,(fun i hi=>by cases hi),(HF1.out.alloc _).size⟩)
 refine Calls.mono (show Calls Tryz.prog 12 #[.pointer (some ⟨w1.heap.size,0,none⟩),.int .i64 0] _ _ from value_all 8 0 w1.heap.size w _ pr n cap 0 _ [] (by omega) HR.out HB0.out (by omega) (by simp)) ?_;rintro e w2 ⟨rfl,vo,a,its,hB,hV,-,g2,g3,g4⟩;rw[List.nil_append]at hB;have HLW:=hid (show lw its≤100000 by omega);have HB:=hid hB;have HV:=hid hV;have HF2:=hid hB.fr;have HRW:=hid hB.row;have k2:=blk_cell hB.blk (show(bdCells (.slice pr n cap) a vo)[2]? =some vo from rfl);have HBK:=hid hB.blk;clear hB hV g2 g3 g4 HB0 HF1 HR HB;generalize w1.heap.size=B at*
 go_wp2_with fail
 refine Calls.mono (pick_gen c 18 _ HC.out.1 HC.out.2.1 (by omega) (by omega)) ?_;rintro e w3 ⟨ik,hik,rfl,hw⟩;have hw2:=hw.symm;subst hw2;clear hw;obtain⟨ind,hind⟩:∃ind:Int,(ik:Int)-1=ind:=⟨_,rfl⟩;have hwr:IntKind.i64.wrap ((ik:Int)-1)=(ik:Int)-1:=IntWalk.i64_in _ (by omega);have HI:=hid (show¬(ind< -1∨16<ind) by omega);rw[hind]at hwr;obtain⟨q1,q2,q3⟩:=lw_mem its;have hlw:=HLW.out;have HQ:=hid (show its.length≤10000∧wgt (ims its)≤10000000∧∀x,x∈ims its→x.s.length≤100000 from⟨by omega,by omega,fun x hx=>by have:=q3 x hx;omega⟩);clear q1 q2 q3 hlw
 --what is written,and what is answered of it
 have hlen:=HV.out.len w (show ind≤16 by have:=HI.out;omega) 9 1000 its (by omega) (by omega);obtain⟨hc,hq,hne,-⟩:=HV.out.hd w (show 9≤1000 by omega) ind false;obtain⟨l2,hs1,hs2⟩:=Vl.sort ind 9 its HV.out;obtain⟨u1,u2,u3⟩:=hs2 1000 (by omega);have a1:=wAns_back HV.out HI.out;have a2:=read_back w (indent:=ind) HV.out (by omega);have a3:=fAns_back w HV.out false HI.out;have a4:=fAns_back w HV.out true HI.out;have a5:=fAns_back w hs1 true HI.out;rw[u1]at a4;rw[u2]at a5;have HS0:=hid (show wrD ind false 1000 (ims its)≠[] by rw[hne];simp);have HS1:=hid (show(wrD ind false 1000 (ims its)).length≤1400000 by have:=HLW.out;omega);clear hs1 hs2 u1 u2 hlen hne hc hq;generalize wrD ind false 1000 (ims its)=s at*;generalize wrD ind false 1000 (ims l2)=s2 at*
 have HPW:=hid (fun (wx:World) (hf:Fr (fun _=>False) w wx) (g cp:Nat) (hr:wx.ownsRow 0 29 4 (.slice (some ⟨g,0,none⟩) its.length cp) its.length (itsV its))=>(show Calls Tryz.prog 8 #[.slice (some ⟨g,0,none⟩) its.length cp,.int .i64 ind,.bool false] wx fun e w'=>e=.returned (.tuple #[.string (ofL s),.int .i64 0])∧Fr (fun _=>False) wx w' from by
  have:=pwrite_any wx g cp (ims its) ind false (by unfold ItAt;rw[ims_V,ims_length];exact hr) (HT.out.fr hf id id) (by rw[ims_length];have:=HQ.out.1;omega) (fun x hx=>by have:=HQ.out.2.2 x hx;omega) HV.out.bok (by have:=HQ.out.2.1;omega);rw[a1,ims_length]at this
  exact this))
 have HRD:=hid (fun (wx:World) (pc:Nat) (h1:1≤pc) (h2:pc≤1000)=>(show Calls Tryz.prog 14 #[.string (ofL s),.int .i64 (pc:Int)] wx (ClosePost (fun _=>False) wx (its,0,s.length))from by
  have:=read_any s pc wx h1 (by omega) HS1.out;rw[a2]at this
  exact this))
 have HM1:=hid (fun wx (hf:Fr (fun _=>False) w wx)=>fmt_one wx s s s.length ind false (HT.out.fr hf id id) HS1.out HI.out a3);have HM2:=hid (fun wx (hf:Fr (fun _=>False) w wx)=>fmt_one wx s s2 s.length ind true (HT.out.fr hf id id) HS1.out HI.out a4);have HM3:=hid (fun wx (hf:Fr (fun _=>False) w wx)=>fmt_one wx s2 s2 s2.length ind true (HT.out.fr hf id id) (by rw[u3];exact HS1.out) HI.out a5);have z1:=ofL_size s;have z2:=ofL_size s2;rw[u3]at z2;clear a1 a2 a3 a4 a5;have HU3:=hid u3;clear u3
 obtain⟨g,cp,rfl⟩:∃g cp,vo=.slice (some ⟨g,0,none⟩) its.length cp:=by
  have hn0:its.length≠0:=by simpa using HV.out.ne
  obtain⟨m,hm⟩:∃m,its.length=m+1:=⟨its.length-1,by omega⟩;have hr:=HRW.out;rw[hm]at hr ⊢;obtain⟨g,cp,rfl⟩:=row_succ hr;exact⟨g,cp,rfl⟩
 generalize hsl:s.length=sl at*;have HSN:=hid (show(ofL s).toList.isEmpty=false by rw[ofL_toList];cases s with|nil=>exact absurd rfl HS0.out|cons _ _=>rfl);have hsn:=HSN.out
 go_wp2_with fail
 refine Calls.mono (HPW.out _ HF2.out g cp HRW.out) ?_;rintro e w4 ⟨rfl,hF4⟩;have HF4:=hid (HF2.out.trans hF4);have HRW4:=hid (ownsRow_fr HRW.out hF4);have HBK4:=hid (hF4.heap HBK.out id);clear hF4 HF2 HRW HBK HPW k2
 go_wp2_with fail
 refine Calls.mono (pick_gen p 9 _ HC.out.2.2.1 HC.out.2.2.2 (by omega) (by omega)) ?_;rintro e w5 ⟨pk,hpk,rfl,hw⟩;have hw2:=hw.symm;subst hw2;clear hw;have hwp:IntKind.i64.wrap (1+(pk:Int))=1+(pk:Int):=IntWalk.i64_in _ (by omega)
 go_wp2_with fail
 refine Calls.mono (show Calls Tryz.prog 14 #[.string (ofL s),.int .i64 (1+(pk:Int))] _ _ from by
  have:=HRD.out w4 (1+pk) (by omega) (by omega);rw[show((1+pk:Nat):Int)=1+(pk:Int) by omega]at this
  exact this) ?_
 rintro e w5 ⟨V,rfl,r1,-,r3⟩;simp only at r1 ⊢;have HR5:=hid r1;have HRW5:=hid (ownsRow_fr HRW4.out r3);have HBK5:=hid (r3.heap HBK4.out id);have HF5:=hid (HF4.out.trans r3);have k2:=blk_cell HBK5.out (show(bdCells (.slice pr n cap) a (.slice (some ⟨g,0,none⟩) its.length cp))[2]? =some (.slice (some ⟨g,0,none⟩) its.length cp)from rfl);clear r1 r3 HRW4 HBK4 HF4 HRD hpk hwp hik hind hwr
 go_wp2_with fail
 refine Calls.mono (same_any its V _ _ (by have:=HQ.out.1;omega) HR5.out HRW5.out) ?_;rintro e w6 ⟨rfl,hF6⟩;have HF6:=hid (HF5.out.trans hF6);clear hF6 HF5 HR5 HRW5 HBK5 k2 HQ HLW HV
 go_wp2_with fail
 refine Calls.mono (HM1.out _ HF6.out) ?_;rintro e w7 ⟨rfl,hF7⟩;have HF7:=hid (HF6.out.trans hF7);clear hF7 HF6 HM1
 go_wp2_with fail
 have e8:(w7.alloc (.cells #[.string (ofL s),.int .i64 0,.int .i64 (sl:Int)] 42)).heap.size=w7.heap.size+1:=by simp
 refine Calls.mono (show Calls Tryz.prog 16 #[.slice (some ⟨w7.heap.size+1,0,none⟩) 1 1,.int .i64 9,.int .i64 ind,.bool true] _ _ from by
  have:=HM2.out _ (HF7.out.alloc (.cells #[.string (ofL s),.int .i64 0,.int .i64 (sl:Int)] 42));rw[e8]at this
  exact this) ?_
 rintro e w8 ⟨rfl,hF8⟩;have HF8:=hid ((HF7.out.alloc _).trans hF8);have HB8:=hid (hF8.heap (heap_alloc_new w7 _) id);generalize w7.heap.size=b1 at*;clear hF8 HF7 HM2 e8
 go_wp2_with fail
 have e9:(w8.alloc (.cells #[.string (ofL s2),.int .i64 0,.int .i64 (sl:Int)] 42)).heap.size=w8.heap.size+1:=by simp
 refine Calls.mono (show Calls Tryz.prog 16 #[.slice (some ⟨w8.heap.size+1,0,none⟩) 1 1,.int .i64 9,.int .i64 ind,.bool true] _ _ from by
  have:=HM3.out _ (HF8.out.alloc (.cells #[.string (ofL s2),.int .i64 0,.int .i64 (sl:Int)] 42));rw[e9]at this
  exact this) ?_
 rintro e w9 ⟨rfl,hF9⟩;have HF9:=hid ((HF8.out.alloc _).trans hF9);have HC9:=hid (hF9.heap (heap_alloc_new w8 _) id);have HB9:=hid (hF9.heap (((Fr.refl (fun _=>False) w8).alloc _).heap HB8.out id) id);generalize w8.heap.size=b2 at*;clear hF9 HF8 HM3 e9 HB8;rw[HU3.out];have HFA:=hid ((Fr.refl (fun _=>False) w9).alloc (.cells #[.string (ofL s2),.int .i64 0,.int .i64 (sl:Int)] 42));have HFB:=hid (HF9.out.trans HFA.out);have HA1:=hid (HFA.out.heap HB9.out id);have HA2:=hid (HFA.out.heap HC9.out id);have HA3:=hid (heap_alloc_new w9 (.cells #[.string (ofL s2),.int .i64 0,.int .i64 (sl:Int)] 42));have n10:(w9.alloc (.cells #[.string (ofL s2),.int .i64 0,.int .i64 (sl:Int)] 42)).cell? ⟨b1,0,none⟩=some (.string (ofL s)):=blk_cell HA1.out rfl;have n11:(w9.alloc (.cells #[.string (ofL s2),.int .i64 0,.int .i64 (sl:Int)] 42)).cell? ⟨b1,1,none⟩=some (.int .i64 0):=blk_cell HA1.out rfl;have n12:(w9.alloc (.cells #[.string (ofL s2),.int .i64 0,.int .i64 (sl:Int)] 42)).cell? ⟨b1,2,none⟩=some (.int .i64 (sl:Int)):=blk_cell HA1.out rfl;have n20:(w9.alloc (.cells #[.string (ofL s2),.int .i64 0,.int .i64 (sl:Int)] 42)).cell? ⟨b2,0,none⟩=some (.string (ofL s2)):=blk_cell HA2.out rfl;have n21:(w9.alloc (.cells #[.string (ofL s2),.int .i64 0,.int .i64 (sl:Int)] 42)).cell? ⟨b2,1,none⟩=some (.int .i64 0):=blk_cell HA2.out rfl;have n22:(w9.alloc (.cells #[.string (ofL s2),.int .i64 0,.int .i64 (sl:Int)] 42)).cell? ⟨b2,2,none⟩=some (.int .i64 (sl:Int)):=blk_cell HA2.out rfl;have n30:(w9.alloc (.cells #[.string (ofL s2),.int .i64 0,.int .i64 (sl:Int)] 42)).cell? ⟨w9.heap.size,0,none⟩=some (.string (ofL s2)):=blk_cell HA3.out rfl;have n31:(w9.alloc (.cells #[.string (ofL s2),.int .i64 0,.int .i64 (sl:Int)] 42)).cell? ⟨w9.heap.size,1,none⟩=some (.int .i64 0):=blk_cell HA3.out rfl;have n32:(w9.alloc (.cells #[.string (ofL s2),.int .i64 0,.int .i64 (sl:Int)] 42)).cell? ⟨w9.heap.size,2,none⟩=some (.int .i64 (sl:Int)):=blk_cell HA3.out rfl;have he1:((ofL s).toList==(ofL s).toList)=true:=beq_self_eq_true _;have he2:((ofL s2).toList==(ofL s2).toList)=true:=beq_self_eq_true _;have he3:((sl:Int)==(sl:Int))=true:=beq_self_eq_true _;clear HA1 HA2 HA3 HB9 HC9 HF9 HFA;go_wp2;go_ret;exact⟨rfl,HFB.out⟩
end Go.Proofs.YtmkkibaacclhnaaGreatDoor
