/-
  A step of the walk, the part named Vs. No theorem of the row.
-/
import Derived.Test.YtmkkibaacclhnaaGreatDoorVr
namespace Go.Proofs.YtmkkibaacclhnaaGreatDoor
open Go.RowKit
set_option maxRecDepth 100000
set_option maxHeartbeats 16000000
theorem writeParts_none (w:World) (B g ig cap:Nat) (its:List Im) (beh:List Nat) (nx ind:Int) (so:Bool) (op:Nat) (vo:Value) (bs:List UInt8) (p:Nat) (L:List Nat) (h:PIn w B g ig cap its beh nx ind so op (.pointer (some ⟨B,6,none⟩)) vo bs) (HPT:Calls Tryz.prog 73 #[.pointer (some ⟨B,0,none⟩),.int .i64 (p:Int)] w (PlPost w 0 L)):
 Calls Tryz.prog 45 #[.pointer (some ⟨B,0,none⟩),.int .i64 (p:Int)] w fun e w'=>e=.returned (.tuple #[])∧WPost B w (.slice (some ⟨ig,0,none⟩) its.length cap) (.slice (some ⟨g,0,none⟩) its.length its.length) nx ind so op vo bs w':=by
 have H:=hid h;have HP:=hid HPT;clear h HPT;go_enter Tryz.func45,Tryz.ntmps45
 go_wp2_with fail
 refine Calls.mono HP.out ?_;rintro e w1 ⟨hh,rfl,hF1,hhw,hrow⟩;have HWS1:=hid (H.out.ws.same hF1);clear hF1 hhw hrow;go_wp2
 go_returns
 exact⟨rfl,HWS1.out.post⟩
theorem alloc_post {B:Nat} {w w2:World} {vi vb:Value} {nx ind:Int} {so:Bool} {op:Nat} {vo:Value} {bs:List UInt8} (o:Obj) (h:WPost B (w.alloc o) vi vb nx ind so op vo bs w2):WPost B w vi vb nx ind so op vo bs w2:=
 WPost.trans (((Fr.refl (fun i=>i=B∨vo.ownBlock=some i) w).alloc o)) (fun _ hg=>.inl hg) h
theorem write_null (w:World) (B g ig cap:Nat) (its:List Im) (beh:List Nat) (nx ind:Int) (so:Bool) (op:Nat) (ad vo:Value) (bs:List UInt8) (p:Nat) (n:Int) (b:Nat) (s:List UInt8) (h:PIn w B g ig cap its beh nx ind so op ad vo bs) (_hl:its.length≤10000000) (hx:its[p]? =some ⟨0,n,b,s⟩) (hlen:bs.length≤91000000000):
 Calls Tryz.prog 26 #[.pointer (some ⟨B,0,none⟩),.int .i64 (p:Int)] w fun e w'=>e=.returned (.tuple #[])∧WPost B w (.slice (some ⟨ig,0,none⟩) its.length cap) (.slice (some ⟨g,0,none⟩) its.length its.length) nx ind so op vo (bs++[110,117,108,108]) w':=by
 obtain⟨c0,c1,c4,c5,cf⟩:=h.wcells;obtain⟨x0,x1,x2,x3⟩:=h.cells hx;have hp:p<its.length:=(List.getElem?_eq_some_iff.1 hx).1;have HIN:=hid (fun o=>h.fr ((Fr.refl (fun _=>False) w).alloc o));clear h hx;simp only at x0 x1 x2 x3;have HW:=hid (fun o=>show Calls Tryz.prog 42 #[.pointer (some ⟨B,6,none⟩),.string ⟨#[110,117,108,108]⟩] (w.alloc o) _ from writeString_any B (w.alloc o) _ _ nx ind so op ad vo bs [110,117,108,108] (HIN.out o).wat (by show bs.length+4≤_;omega));go_enter Tryz.func26,Tryz.ntmps26
 go_wp2_with (first|(go_at_call 42;refine Calls.mono (HW.out _) ?_;rintro e w2 ⟨rfl,hP⟩;have HP:=hid (alloc_post _ hP);clear hP)|fail)
 go_end0;exact⟨rfl,HP.out⟩
theorem write_false (w:World) (B g ig cap:Nat) (its:List Im) (beh:List Nat) (nx ind:Int) (so:Bool) (op:Nat) (ad vo:Value) (bs:List UInt8) (p:Nat) (n:Int) (b:Nat) (s:List UInt8) (h:PIn w B g ig cap its beh nx ind so op ad vo bs) (_hl:its.length≤10000000) (hx:its[p]? =some ⟨1,n,b,s⟩) (hlen:bs.length≤91000000000):
 Calls Tryz.prog 26 #[.pointer (some ⟨B,0,none⟩),.int .i64 (p:Int)] w fun e w'=>e=.returned (.tuple #[])∧WPost B w (.slice (some ⟨ig,0,none⟩) its.length cap) (.slice (some ⟨g,0,none⟩) its.length its.length) nx ind so op vo (bs++[102,97,108,115,101]) w':=by
 obtain⟨c0,c1,c4,c5,cf⟩:=h.wcells;obtain⟨x0,x1,x2,x3⟩:=h.cells hx;have hp:p<its.length:=(List.getElem?_eq_some_iff.1 hx).1;have HIN:=hid (fun o=>h.fr ((Fr.refl (fun _=>False) w).alloc o));clear h hx;simp only at x0 x1 x2 x3;have HW:=hid (fun o=>show Calls Tryz.prog 42 #[.pointer (some ⟨B,6,none⟩),.string ⟨#[102,97,108,115,101]⟩] (w.alloc o) _ from writeString_any B (w.alloc o) _ _ nx ind so op ad vo bs [102,97,108,115,101] (HIN.out o).wat (by show bs.length+5≤_;omega));go_enter Tryz.func26,Tryz.ntmps26
 go_wp2_with (first|(go_at_call 42;refine Calls.mono (HW.out _) ?_;rintro e w2 ⟨rfl,hP⟩;have HP:=hid (alloc_post _ hP);clear hP)|fail)
 go_end0;exact⟨rfl,HP.out⟩
theorem write_true (w:World) (B g ig cap:Nat) (its:List Im) (beh:List Nat) (nx ind:Int) (so:Bool) (op:Nat) (ad vo:Value) (bs:List UInt8) (p:Nat) (n:Int) (b:Nat) (s:List UInt8) (h:PIn w B g ig cap its beh nx ind so op ad vo bs) (_hl:its.length≤10000000) (hx:its[p]? =some ⟨2,n,b,s⟩) (hlen:bs.length≤91000000000):
 Calls Tryz.prog 26 #[.pointer (some ⟨B,0,none⟩),.int .i64 (p:Int)] w fun e w'=>e=.returned (.tuple #[])∧WPost B w (.slice (some ⟨ig,0,none⟩) its.length cap) (.slice (some ⟨g,0,none⟩) its.length its.length) nx ind so op vo (bs++[116,114,117,101]) w':=by
 obtain⟨c0,c1,c4,c5,cf⟩:=h.wcells;obtain⟨x0,x1,x2,x3⟩:=h.cells hx;have hp:p<its.length:=(List.getElem?_eq_some_iff.1 hx).1;have HIN:=hid (fun o=>h.fr ((Fr.refl (fun _=>False) w).alloc o));clear h hx;simp only at x0 x1 x2 x3;have HW:=hid (fun o=>show Calls Tryz.prog 42 #[.pointer (some ⟨B,6,none⟩),.string ⟨#[116,114,117,101]⟩] (w.alloc o) _ from writeString_any B (w.alloc o) _ _ nx ind so op ad vo bs [116,114,117,101] (HIN.out o).wat (by show bs.length+4≤_;omega));go_enter Tryz.func26,Tryz.ntmps26
 go_wp2_with (first|(go_at_call 42;refine Calls.mono (HW.out _) ?_;rintro e w2 ⟨rfl,hP⟩;have HP:=hid (alloc_post _ hP);clear hP)|fail)
 go_end0;exact⟨rfl,HP.out⟩
theorem write_num (w:World) (B g ig cap:Nat) (its:List Im) (beh:List Nat) (nx ind:Int) (so:Bool) (op:Nat) (ad vo:Value) (bs:List UInt8) (p:Nat) (n:Int) (b:Nat) (s:List UInt8) (h:PIn w B g ig cap its beh nx ind so op ad vo bs) (_hl:its.length≤10000000) (hx:its[p]? =some ⟨3,n,b,s⟩) (hlen:bs.length≤91000000000) (hb:b<18446744073709551616) (hfin:b % 9223372036854775808<9218868437227405312):
 Calls Tryz.prog 26 #[.pointer (some ⟨B,0,none⟩),.int .i64 (p:Int)] w fun e w'=>e=.returned (.tuple #[])∧WPost B w (.slice (some ⟨ig,0,none⟩) its.length cap) (.slice (some ⟨g,0,none⟩) its.length its.length) nx ind so op vo (bs++printT b) w':=by
 obtain⟨c0,c1,c4,c5,cf⟩:=h.wcells;obtain⟨x0,x1,x2,x3⟩:=h.cells hx;have hp:p<its.length:=(List.getElem?_eq_some_iff.1 hx).1;have HIN:=hid (fun o=>h.fr ((Fr.refl (fun _=>False) w).alloc o));clear h hx;simp only at x0 x1 x2 x3;have hpl:=printT_len w b hb hfin;have HPR:=hid (fun o=>print_T b (w.alloc o) hb hfin);have HW:=hid (fun o w2 (hf:Fr (fun _=>False) (w.alloc o) w2)=>writeString_any B w2 _ _ nx ind so op ad vo bs (printT b) ((HIN.out o).fr hf).wat (by omega));clear hb hfin hpl;generalize printT b=T at*;go_enter Tryz.func26,Tryz.ntmps26
 go_wp2_with fail
 refine Calls.mono (HPR.out _) ?_;rintro e w2 ⟨rfl,hF⟩;have HW2:=hid (HW.out _ w2 hF);have HF2:=hid (((Fr.refl (fun _=>False) w).alloc _).trans hF);clear hF HPR
 go_wp2_with fail
 refine Calls.mono HW2.out ?_;rintro e w3 ⟨rfl,hP⟩;have HP:=hid (WPost.trans (HF2.out.mono (fun _=>False.elim)) (fun _ hg=>.inl hg) hP);clear hP;go_wp2;go_end0;exact⟨rfl,HP.out⟩
theorem write_text (w:World) (B g ig cap:Nat) (its:List Im) (beh:List Nat) (nx ind:Int) (so:Bool) (op:Nat) (ad vo:Value) (bs:List UInt8) (p:Nat) (n:Int) (b:Nat) (s:List UInt8) (h:PIn w B g ig cap its beh nx ind so op ad vo bs) (_hl:its.length≤10000000) (hx:its[p]? =some ⟨4,n,b,s⟩) (hlen:bs.length≤91000000000) (hs:s.length≤100000000) (hu:isU s=true):
 Calls Tryz.prog 26 #[.pointer (some ⟨B,0,none⟩),.int .i64 (p:Int)] w fun e w'=>e=.returned (.tuple #[])∧WPost B w (.slice (some ⟨ig,0,none⟩) its.length cap) (.slice (some ⟨g,0,none⟩) its.length its.length) nx ind so op vo (bs++quoteL s) w':=by
 obtain⟨c0,c1,c4,c5,cf⟩:=h.wcells;obtain⟨x0,x1,x2,x3⟩:=h.cells hx;have hp:p<its.length:=(List.getElem?_eq_some_iff.1 hx).1;have HIN:=hid (fun o=>h.fr ((Fr.refl (fun _=>False) w).alloc o));clear h hx;simp only at x0 x1 x2 x3;have HW:=hid (fun o=>writeText_any B (w.alloc o) _ _ nx ind so op ad vo bs s (HIN.out o).wat hu (by omega));clear hu;go_enter Tryz.func26,Tryz.ntmps26
 go_wp2_with (first|(go_at_call 43;refine Calls.mono (HW.out _) ?_;rintro e w2 ⟨rfl,hP⟩;have HP:=hid (alloc_post _ hP);clear hP)|fail)
 go_end0;exact⟨rfl,HP.out⟩
theorem write_arr (w:World) (B g ig cap:Nat) (its:List Im) (beh:List Nat) (nx ind:Int) (so:Bool) (op:Nat) (ad vo:Value) (bs:List UInt8) (p:Nat) (n:Int) (b:Nat) (s INN:List UInt8) (h:PIn w B g ig cap its beh nx ind so op ad vo bs) (_hl:its.length≤10000000) (hx:its[p]? =some ⟨5,n,b,s⟩) (hlen:bs.length≤91000000000)
 (HPP:∀w2 vo2 bs2,PIn w2 B g ig cap its beh nx ind so op (.pointer (some ⟨B,6,none⟩)) vo2 bs2→bs2.length+INN.length≤90000000000→Calls Tryz.prog 45 #[.pointer (some ⟨B,0,none⟩),.int .i64 (p:Int)] w2 fun e w'=>e=.returned (.tuple #[])∧WPost B w2 (.slice (some ⟨ig,0,none⟩) its.length cap) (.slice (some ⟨g,0,none⟩) its.length its.length) nx ind so op vo2 (bs2++INN) w') (hINN:bs.length+1+INN.length≤90000000000):
 Calls Tryz.prog 26 #[.pointer (some ⟨B,0,none⟩),.int .i64 (p:Int)] w fun e w'=>e=.returned (.tuple #[])∧WPost B w (.slice (some ⟨ig,0,none⟩) its.length cap) (.slice (some ⟨g,0,none⟩) its.length its.length) nx ind so op vo (bs++(91::(INN++[93]))) w':=by
 obtain⟨c0,c1,c4,c5,cf⟩:=h.wcells;obtain⟨x0,x1,x2,x3⟩:=h.cells hx;have hp:p<its.length:=(List.getElem?_eq_some_iff.1 hx).1;have HIN:=hid (fun o=>h.fr ((Fr.refl (fun _=>False) w).alloc o));clear h hx;simp only at x0 x1 x2 x3;have HO:=hid (fun o=>show Calls Tryz.prog 44 #[.pointer (some ⟨B,6,none⟩),.int .u8 91] (w.alloc o) _ from writeByte_any B (w.alloc o) _ _ nx ind so op ad vo bs 91 (HIN.out o).wat (by omega));have HQ:=hid HPP;clear HPP;go_enter Tryz.func26,Tryz.ntmps26
 go_wp2_with fail
 refine Calls.mono (HO.out _) ?_;rintro e w2 ⟨rfl,hP⟩;obtain⟨vo2,hw2⟩:=(HIN.out _).step hP;have HW2:=hid hw2;have HC:=hid (HQ.out w2 vo2 _ hw2.pin (by simp only[List.length_append,List.length_singleton];omega));clear hP hw2 HQ HO
 go_wp2_with fail
 refine Calls.mono HC.out ?_;rintro e w3 ⟨rfl,hP⟩;obtain⟨vo3,hw3⟩:=HW2.out.step hP;have HW3:=hid hw3;have HE:=hid (show Calls Tryz.prog 44 #[.pointer (some ⟨B,6,none⟩),.int .u8 93] w3 _ from writeByte_any B w3 _ _ nx ind so op _ vo3 _ 93 hw3.pin.wat (by simp only[List.length_append,List.length_singleton];omega));clear hP hw3 HC
 go_wp2_with fail
 refine Calls.mono HE.out ?_;rintro e w4 ⟨rfl,hP⟩;obtain⟨vo4,hw4⟩:=HW3.out.step hP;have HP:=hid (alloc_post _ hw4.post);clear hP hw4 HE;go_wp2;go_end0;refine⟨rfl,?_⟩;have:=HP.out;simp only[List.append_assoc,List.singleton_append]at this;exact this
theorem write_obj (w:World) (B g ig cap:Nat) (its:List Im) (beh:List Nat) (nx ind:Int) (so:Bool) (op:Nat) (ad vo:Value) (bs:List UInt8) (p:Nat) (n:Int) (b:Nat) (s INN:List UInt8) (h:PIn w B g ig cap its beh nx ind so op ad vo bs) (_hl:its.length≤10000000) (hx:its[p]? =some ⟨6,n,b,s⟩) (hlen:bs.length≤91000000000)
 (HPP:∀w2 vo2 bs2,PIn w2 B g ig cap its beh nx ind so op (.pointer (some ⟨B,6,none⟩)) vo2 bs2→bs2.length+INN.length≤90000000000→Calls Tryz.prog 45 #[.pointer (some ⟨B,0,none⟩),.int .i64 (p:Int)] w2 fun e w'=>e=.returned (.tuple #[])∧WPost B w2 (.slice (some ⟨ig,0,none⟩) its.length cap) (.slice (some ⟨g,0,none⟩) its.length its.length) nx ind so op vo2 (bs2++INN) w') (hINN:bs.length+1+INN.length≤90000000000):
 Calls Tryz.prog 26 #[.pointer (some ⟨B,0,none⟩),.int .i64 (p:Int)] w fun e w'=>e=.returned (.tuple #[])∧WPost B w (.slice (some ⟨ig,0,none⟩) its.length cap) (.slice (some ⟨g,0,none⟩) its.length its.length) nx ind so op vo (bs++(123::(INN++[125]))) w':=by
 obtain⟨c0,c1,c4,c5,cf⟩:=h.wcells;obtain⟨x0,x1,x2,x3⟩:=h.cells hx;have hp:p<its.length:=(List.getElem?_eq_some_iff.1 hx).1;have HIN:=hid (fun o=>h.fr ((Fr.refl (fun _=>False) w).alloc o));clear h hx;simp only at x0 x1 x2 x3;have HO:=hid (fun o=>show Calls Tryz.prog 44 #[.pointer (some ⟨B,6,none⟩),.int .u8 123] (w.alloc o) _ from writeByte_any B (w.alloc o) _ _ nx ind so op ad vo bs 123 (HIN.out o).wat (by omega));have HQ:=hid HPP;clear HPP;go_enter Tryz.func26,Tryz.ntmps26
 go_wp2_with fail
 refine Calls.mono (HO.out _) ?_;rintro e w2 ⟨rfl,hP⟩;obtain⟨vo2,hw2⟩:=(HIN.out _).step hP;have HW2:=hid hw2;have HC:=hid (HQ.out w2 vo2 _ hw2.pin (by simp only[List.length_append,List.length_singleton];omega));clear hP hw2 HQ HO
 go_wp2_with fail
 refine Calls.mono HC.out ?_;rintro e w3 ⟨rfl,hP⟩;obtain⟨vo3,hw3⟩:=HW2.out.step hP;have HW3:=hid hw3;have HE:=hid (show Calls Tryz.prog 44 #[.pointer (some ⟨B,6,none⟩),.int .u8 125] w3 _ from writeByte_any B w3 _ _ nx ind so op _ vo3 _ 125 hw3.pin.wat (by simp only[List.length_append,List.length_singleton];omega));clear hP hw3 HC
 go_wp2_with fail
 refine Calls.mono HE.out ?_;rintro e w4 ⟨rfl,hP⟩;obtain⟨vo4,hw4⟩:=HW3.out.step hP;have HP:=hid (alloc_post _ hw4.post);clear hP hw4 HE;go_wp2;go_end0;refine⟨rfl,?_⟩;have:=HP.out;simp only[List.append_assoc,List.singleton_append]at this;exact this
theorem nodup_len {L:List Nat} {n:Nat} (h:∀y,y∈L→y<n) (hp:L.Pairwise (·< ·)):L.length≤n:=by
 have main:∀(L:List Nat) (lo:Nat),(∀y,y∈L→lo≤y∧y<n)→L.Pairwise (·< ·)→L.length+lo≤n∨L=[]:=by
  intro L
  induction L with
  |nil=>exact fun _ _ _=>.inr rfl
  |cons y L ih=>
   intro lo hb hp;obtain⟨h1,h2⟩:=List.pairwise_cons.1 hp;have hy:=hb y (by simp);rcases ih (y+1) (fun z hz=>⟨h1 z hz,(hb z (by simp[hz])).2⟩) h2 with h|h
   ·exact .inl (by rw[List.length_cons];omega)
   ·subst h;exact .inl (by simp;omega)
 rcases main L 0 (fun y hy=>⟨Nat.zero_le _,h y hy⟩) hp with h|h
 ·omega
 ·subst h;exact Nat.zero_le _
theorem write_step (d:Nat) (IH:∀e,d=e+1→WriteOk e):WriteOk d:=by
 intro w B g ig cap its beh nx ind so op ad vo bs p h hop hi1 hi2 hl hs hb hz hlen;have hle:=sizeD_le d (its.drop p);rw[List.length_drop]at hle;have hlt:p<its.length:=by omega
 have hx:its[p]? =some its[p]:=List.getElem?_eq_getElem hlt;have hdr:its.drop p=its[p]::its.drop (p+1):=List.drop_eq_getElem_cons hlt;obtain⟨x,hxx⟩:∃x,its[p]=x:=⟨_,rfl⟩;rw[hxx]at hx hdr;have hmem:x∈its:=List.mem_of_getElem? hx;rw[hdr]at hz hlen ⊢
 have hg:goodI x=true:=by
  by_cases hg:goodI x=true
  ·exact hg
  ·exfalso
   apply hz;cases d with
   |zero=>rw[sizeD,if_neg (fun h=>hg h.1)]
   |succ e=>rw[sizeD,if_neg hg]
 have hgk:=goodI_k hg;by_cases hk:x.k<5
 ·have hT:wrD ind so d (x::its.drop (p+1))=leafT x:=by
   cases d with
   |zero=>rfl
   |succ e=>simp only[wrD];rw[if_pos hk]
  rw[hT]at hlen ⊢;have hbs:bs.length≤91000000000:=by omega
  have hxs:=hs x hmem;have hxb:=hb x hmem;have hnum:=goodI_num hg
  have htxt:x.k=4→isU x.s=true:=fun h4=>by
   unfold goodI at hg;rw[if_neg (by omega),if_neg (by omega),if_pos h4]at hg;simp at hg;exact hg.2
  obtain⟨k,n,b,s⟩:=x;simp only at hk hgk hxs hxb hnum htxt;unfold leafT;simp only;by_cases h0:k=0
  ·subst h0;exact write_null w B g ig cap its beh nx ind so op ad vo bs p n b s h hl hx hbs
  rw[if_neg h0];by_cases h1:k=1
  ·subst h1;exact write_false w B g ig cap its beh nx ind so op ad vo bs p n b s h hl hx hbs
  rw[if_neg h1];by_cases h2:k=2
  ·subst h2;exact write_true w B g ig cap its beh nx ind so op ad vo bs p n b s h hl hx hbs
  rw[if_neg h2];by_cases h3:k=3
  ·subst h3;exact write_num w B g ig cap its beh nx ind so op ad vo bs p n b s h hl hx hbs hxb (hnum rfl)
  rw[if_neg h3];obtain rfl:k=4:=by omega
  exact write_text w B g ig cap its beh nx ind so op ad vo bs p n b s h hl hx hbs hxs (htxt rfl)
 ·cases d with
  |zero=>rw[sizeD,if_neg (fun h=>hk h.2)]at hz;exact absurd rfl hz
  |succ e=>
   obtain⟨h56,hn0⟩:=goodI_nest hg hk;have hIH:=IH e rfl;rw[sizeD,if_pos hg,if_neg hk]at hz;cases hpg:partsG (sizeD e) (decide (x.k=6)) x.n.toNat (its.drop (p+1))with
   |none=>rw[hpg]at hz;exact absurd rfl hz
   |some m=>
    have hml:=partsG_le (sizeD_le e) _ _ _ _ hpg
    have hW:wrD ind so (e+1) (x::its.drop (p+1))=joinL ind op (decide (x.k=6)) ((ordN (keyAt its) (so&&decide (x.k=6)) (placesL e its (decide (x.k=6)) x.n.toNat (p+1))).map (fun y=>(partT e ind so its (decide (x.k=6)) y).2)):=by
     simp only[wrD];rw[if_neg hk,ord_parts e ind so its (decide (x.k=6)) x.n.toNat (p+1) m hpg,show 999-e=op by omega]
    rw[hW]at hlen ⊢;obtain⟨pl1,pl2,pl3⟩:=places_ok e its (decide (x.k=6)) x.n.toNat (p+1) m hpg;have hperm:=ordN_perm (keyAt its) (so&&decide (x.k=6)) (placesL e its (decide (x.k=6)) x.n.toNat (p+1)) pl1;have hLl:(ordN (keyAt its) (so&&decide (x.k=6)) (placesL e its (decide (x.k=6)) x.n.toNat (p+1))).length=x.n.toNat:=hperm.length_eq.trans pl3;have hLo:∀y,y∈ordN (keyAt its) (so&&decide (x.k=6)) (placesL e its (decide (x.k=6)) x.n.toNat (p+1))→PartOk e its (decide (x.k=6)) y:=fun y hy=>(pl2 y (hperm.mem_iff.1 hy)).2
    have hNle:x.n.toNat≤its.length:=by
     have:=nodup_len (fun y hy=>(pl2 y hy).2.lt) pl1;omega
    obtain⟨k,n,b,s⟩:=x;simp only at h56 hn0 hpg hlen hLl hLo hNle hk;obtain⟨N,rfl⟩:∃N:Nat,n=N:=⟨n.toNat,by omega⟩;simp only[Int.toNat_natCast]at hpg hlen hLl hLo hNle ⊢;rcases h56 with rfl|rfl
    ·simp only[show decide ((5:Int)=6)=false from rfl,Bool.and_false]at hpg hlen hLl hLo ⊢
     obtain⟨L,hL⟩:∃L,ordN (keyAt its) false (placesL e its false N (p+1))=L:=⟨_,rfl⟩
     have HPT:∀w2 ad2 vo2 bs2,PIn w2 B g ig cap its beh nx ind so op ad2 vo2 bs2→Calls Tryz.prog 73 #[.pointer (some ⟨B,0,none⟩),.int .i64 (p:Int)] w2 (PlPost w2 N L):=fun w2 ad2 vo2 bs2 h2=>by
      rw[←hL];exact parts_arr e w2 B g ig cap its beh nx ind so op ad2 vo2 bs2 p N b m s h2 (by omega) hl hx hNle hpg
     rw[hL]at hlen hLl hLo ⊢;by_cases hN0:N=0
     ·have hL0:L=[]:=List.eq_nil_of_length_eq_zero (by omega)
      subst hL0;subst hN0
      show Calls _ _ _ _ (fun e w'=>e=.returned (.tuple #[])∧WPost B w _ _ nx ind so op vo (bs++(91::([]++[93]))) w')
      refine write_arr w B g ig cap its beh nx ind so op ad vo bs p 0 b s [] h hl hx (by omega) (fun w2 vo2 bs2 h2 _=>?_) (by simp only[joinL]at hlen;simp at hlen ⊢;omega);rw[List.append_nil];exact writeParts_none w2 B g ig cap its beh nx ind so op vo2 bs2 p [] h2 (HPT w2 _ vo2 bs2 h2)
     ·have hj:joinL ind op false (L.map (fun y=>(partT e ind so its false y).2))=91::((joinGo ind (op+1) true (L.map (fun y=>(partT e ind so its false y).2))++lineL ind op)++[93]):=by
       unfold joinL;rw[if_neg (by rw[List.length_map];omega)];rfl
      rw[hj]at hlen ⊢;simp only[List.length_cons,List.length_append,List.length_nil]at hlen;refine write_arr w B g ig cap its beh nx ind so op ad vo bs p N b s _ h hl hx (by omega) (fun w2 vo2 bs2 h2 hl2=>?_) (by simp only[List.length_append];omega);exact writeParts_arr e hIH w2 B g ig cap its beh nx ind so op vo2 bs2 p N b s L h2 (by omega) hi1 hi2 hl hs hb hx hN0 hNle hLo hLl (HPT w2 _ vo2 bs2 h2) hl2
    ·simp only[decide_true,Bool.and_true]at hpg hlen hLl hLo ⊢
     obtain⟨L,hL⟩:∃L,ordN (keyAt its) so (placesL e its true N (p+1))=L:=⟨_,rfl⟩
     have HPT:∀w2 ad2 vo2 bs2,PIn w2 B g ig cap its beh nx ind so op ad2 vo2 bs2→Calls Tryz.prog 73 #[.pointer (some ⟨B,0,none⟩),.int .i64 (p:Int)] w2 (PlPost w2 N L):=fun w2 ad2 vo2 bs2 h2=>by
      rw[←hL];cases so
      ·exact parts_objf e w2 B g ig cap its beh nx ind op ad2 vo2 bs2 p N b m s h2 (by omega) hl hx hNle hpg
      ·exact parts_objt e w2 B g ig cap its beh nx ind op ad2 vo2 bs2 p N b m s h2 (by omega) hl hx hNle hpg
     rw[hL]at hlen hLl hLo ⊢;by_cases hN0:N=0
     ·have hL0:L=[]:=List.eq_nil_of_length_eq_zero (by omega)
      subst hL0;subst hN0
      show Calls _ _ _ _ (fun e w'=>e=.returned (.tuple #[])∧WPost B w _ _ nx ind so op vo (bs++(123::([]++[125]))) w')
      refine write_obj w B g ig cap its beh nx ind so op ad vo bs p 0 b s [] h hl hx (by omega) (fun w2 vo2 bs2 h2 _=>?_) (by simp only[joinL]at hlen;simp at hlen ⊢;omega);rw[List.append_nil];exact writeParts_none w2 B g ig cap its beh nx ind so op vo2 bs2 p [] h2 (HPT w2 _ vo2 bs2 h2)
     ·have hj:joinL ind op true (L.map (fun y=>(partT e ind so its true y).2))=123::((joinGo ind (op+1) true (L.map (fun y=>(partT e ind so its true y).2))++lineL ind op)++[125]):=by
       unfold joinL;rw[if_neg (by rw[List.length_map];omega)];rfl
      rw[hj]at hlen ⊢;simp only[List.length_cons,List.length_append,List.length_nil]at hlen;refine write_obj w B g ig cap its beh nx ind so op ad vo bs p N b s _ h hl hx (by omega) (fun w2 vo2 bs2 h2 hl2=>?_) (by simp only[List.length_append];omega);exact writeParts_obj e hIH w2 B g ig cap its beh nx ind so op vo2 bs2 p N b s L h2 (by omega) hi1 hi2 hl hs hb hx hN0 hNle hLo hLl (HPT w2 _ vo2 bs2 h2) hl2
theorem write_all (d:Nat):WriteOk d:=by
 induction d with
 |zero=>exact write_step 0 (fun e he=>by omega)
 |succ d ih=>exact write_step (d+1) (fun e he=>by
   have:d=e:=by omega
   subst this
   exact ih)
end Go.Proofs.YtmkkibaacclhnaaGreatDoor
