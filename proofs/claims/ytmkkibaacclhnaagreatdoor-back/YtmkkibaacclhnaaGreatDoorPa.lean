/-
  A step of the walk, the part named Pa. No theorem of the row.
-/
import Derived.Test.YtmkkibaacclhnaaGreatDoorTnr
namespace Go.Proofs.YtmkkibaacclhnaaGreatDoor
open Go.RowKit
set_option maxRecDepth 100000
set_option maxHeartbeats 16000000
theorem blk_cell {w:World} {B T j:Nat} {cs:Array Value} {v:Value} (h:w.heap[B]? =some (.cells cs T (0,0))) (hj:cs[j]? =some v):w.cell? ⟨B,j,none⟩=some v:=by simp[World.cell?,h,hj]
theorem blk_free {w:World} {B T j:Nat} {cs:Array Value} (h:w.heap[B]? =some (.cells cs T (0,0))):w.frozen? ⟨B,j,none⟩=false:=by simp[World.frozen?,h]
def Newer (v v':Value) (w:World):Prop:=∀g,v'.ownBlock=some g→v.ownBlock=some g∨w.heap.size≤g
theorem ownsRow_up {w w1:World} {base e size n m:Nat} {v v':Value} {xs ys:List Value} (h:w1.ownsRow 0 e size v' n xs) (ho:w.ownsRow base e size v m ys) (hb:base≤w.heap.size) (hn:∀g',v'.ownBlock=some g'→v.ownBlock=some g'∨w.heap.size+1≤g'):w1.ownsRow base e size v' n xs:=by
 refine⟨h.1,?_⟩;rcases h.2 with h2|⟨g,cap,cur,hv,_,h4⟩
 ·exact .inl h2
 ·refine .inr ⟨g,cap,cur,hv,?_,h4⟩
  rcases hn g (by rw[hv];rfl)with h5|h5
  ·exact(ho.lt g h5).1
  ·omega
def AddPost (base B o T:Nat) (cs:Array Value) (w w':World) (v:Value) (x:List Nat×Int):Prop:=
 ∃v',w'.heap[B]? =some (.cells ((cs.setIfInBounds o v').setIfInBounds (o+1) (.int .i64 x.2)) T (0,0))∧w'.ownsRow base 5 1 v' x.1.length (bs x.1)∧Fr (fun i=>i=B∨v.ownBlock=some i) w w'∧Newer v v' w
theorem set_same {cs:Array Value} {j:Nat} {v:Value} (h:cs[j]? =some v):cs.setIfInBounds j v=cs:=by
 apply Array.ext_getElem?;intro i;rw[Array.getElem?_setIfInBounds];split
 ·rename_i e;subst e
  split
  ·exact h.symm
  ·rename_i hn;rw[Array.getElem?_eq_none (by omega)]
 ·rfl
theorem set_get_ne {cs:Array Value} {j k:Nat} {v:Value} (h:j≠k):(cs.setIfInBounds j v)[k]? =cs[k]? :=by
 rw[Array.getElem?_setIfInBounds,if_neg h]
theorem add_any (base B o T:Nat) (cs:Array Value) (D:List Nat) (P:Int) (c:UInt8) (v:Value) (w:World) (hT:T≠5) (hbw:base≤w.heap.size) (hh:w.heap[B]? =some (.cells cs T (0,0)))
 (h0:cs[o]? =some v) (h1:cs[o+1]? =some (.int .i64 P)) (ho:w.ownsRow base 5 1 v D.length (bs D)) (hlen:D.length≤769) (hP1: -4000000000000000≤P) (hP2:P≤4000000000000000) (hc:isD c=true):
 Calls Tryz.prog 58 #[.pointer (some ⟨B,o,none⟩),.int .u8 (c.toNat:Int)] w fun e w'=>e=.returned (.tuple #[])∧AddPost base B o T cs w w' v (addD (D,P) (c.toNat-48)):=by
 obtain⟨hcl,hch⟩:=(isD_iff c).1 hc;obtain⟨a,cap,rfl⟩:=row_shape ho;have hc0:=blk_cell hh h0;have hc1:=blk_cell hh h1;have hf0:=blk_free (j:=o) hh;have hf1:=blk_free (j:=o+1) hh;have hro:=row_other ho hh hT;have hBl:=lt_of_block hh;obtain⟨i0,hi,hz0,hz1,hz2⟩:=info_parts Tryz.info5;by_cases hA:D.length=0∧c.toNat=48
 ·have hDn:D=[]:=List.eq_nil_of_length_eq_zero hA.1
  subst hDn;have hdg:((c.toNat:Int)==48)=true:=by simp;omega
  have hres:addD ([],P) (c.toNat-48)=([],P-1):=by simp[addD,hA.2]
  have HR:=hid hres;have HS1:=hid (heap_setCell_same w B (o+1) cs T (.int .i64 (P-1)) hh);have HO:=hid ho;have HE:=hid (set_same h0);have HH:=hid hh;clear hA hres ho h0 h1 hh;simp only[List.length_nil]at*;go_enter Tryz.func58,Tryz.ntmps58;go_wp2;go_end0;rw[HR.out];refine⟨rfl,.slice a 0 cap,?_,ownsRow_setCell_other HO.out (a:=⟨B,o+1,none⟩) hro _,(Fr.refl _ w).setCell (.inl (.inl rfl)) _,fun _ h=>.inl h⟩;rw[HE.out];exact HS1.out
 ·by_cases hlt7:D.length<768
  ·have hres:addD (D,P) (c.toNat-48)=(D++[c.toNat-48],P):=by
    unfold addD;rw[if_neg (by rintro⟨h1,h2⟩;simp only at h1;apply hA;rw[h1];exact⟨rfl,by omega⟩),if_pos hlt7]
   have HR:=hid hres;have HE:=hid (show(cs.setIfInBounds o (.slice a D.length cap)).setIfInBounds (o+1) (.int .i64 P)=cs by rw[set_same h0,set_same h1]);have HE1:=hid h1;clear hres
   have fin:∀w1:World,∀v',w1.ownsRow base 5 1 v' (D.length+1) (bs D++[.int .u8 (c.toNat:Int)])→(w.alloc (.cells #[.int .u8 (c.toNat:Int)] 5)).grownBy w1 (Value.ownBlock (.slice a D.length cap))→(∀g',v'.ownBlock=some g'→(Value.slice a D.length cap).ownBlock=some g'∨w.heap.size+1≤g')→
    AddPost base B o T cs w (w1.setCell ⟨B,o,none⟩ v') (.slice a D.length cap) (D++[c.toNat-48],P):=by
    intro w1 v' hown' hgrow hnew
    have hh1:w1.heap[B]? =some (.cells cs T (0,0)):=by
     rw[hgrow.block B (by simp;omega) (fun e=>hro e.symm),Below.heap_alloc _ _ _ hBl];exact hh
    have hro1:=row_other hown' hh1 hT;refine⟨v',?_,row_snoc (ownsRow_setCell_other hown' (a:=⟨B,o,none⟩) hro1 _) (by omega),(((Fr.refl _ w).alloc _).grown hgrow (fun k hk=>.inl (.inr hk))).setCell (.inl (.inl rfl)) _,fun g hg=>(hnew g hg).imp id (fun h=>by omega)⟩;rw[set_same (j:=o+1) (by rw[set_get_ne (by omega)];exact HE1.out)];exact heap_setCell_same w1 B o cs T v' hh1
   have FIN:=hid fin;clear fin;by_cases hD0:D.length=0
   ·have hl0:((D.length:Int)==0)=true:=beq_iff_eq.2 (by omega)
    have hdg:((c.toNat:Int)==48)=false:=by simp;omega
    have HA:=hid hA;have HD0:=hid hD0;have HX0:=hid h0;clear hA hD0 h0 h1;go_enter Tryz.func58,Tryz.ntmps58
    go_wp2_with (first
     |(at_builtin;refine wpList_append_d _ rfl _ _ 65 rfl 5 i0 (.int .u8 0) 1 1 Tryz.underlying65 hi hz0 hz1 hz2 rfl (by decide) _ _ _ rfl (ownsRow_base (ho.alloc _)) ⟨w.heap.size,0,none⟩ 1 1 [.int .u8 (c.toNat:Int)] rfl rfl ?c1 ?c2 ?c3 ?c4 ?_)
     |go_in)
    case c1=>exact cell_one_new _ _ _
    case c2=>intro u hu;simp at hu;subst hu;rfl
    case c3=>unfold maxLen;omega
    case c4=>omega
    intro v' w1 hown0 hgrow hnew;have hown':=ownsRow_up hown0 ho hbw hnew;obtain⟨g',cap',rfl⟩:=row_succ hown'
    have hh1:w1.heap[B]? =some (.cells cs T (0,0)):=by
     rw[hgrow.block B (by simp;omega) (fun e=>hro e.symm),Below.heap_alloc _ _ _ hBl];exact hh
    have hf2:=blk_free (j:=o) hh1;have hcu:=blk_cell hh1 HX0.out;have HFIN:=hid (FIN.out w1 _ hown' hgrow hnew);clear hown' hown0 hgrow hnew hh1 hh ho hc0 hc1 hf0 hf1 hro;go_wp2;go_end0;rw[HR.out];exact⟨rfl,HFIN.out⟩
   ·have hl0:((D.length:Int)==0)=false:=beq_eq_false_iff_ne.2 (by omega)
    have HA:=hid hA;clear hA;have HX0:=hid h0;clear h0 h1;go_enter Tryz.func58,Tryz.ntmps58
    go_wp2_with (first
     |(at_builtin;refine wpList_append_d _ rfl _ _ 65 rfl 5 i0 (.int .u8 0) 1 1 Tryz.underlying65 hi hz0 hz1 hz2 rfl (by decide) _ _ _ rfl (ownsRow_base (ho.alloc _)) ⟨w.heap.size,0,none⟩ 1 1 [.int .u8 (c.toNat:Int)] rfl rfl ?c1 ?c2 ?c3 ?c4 ?_)
     |go_in)
    case c1=>exact cell_one_new _ _ _
    case c2=>intro u hu;simp at hu;subst hu;rfl
    case c3=>unfold maxLen;omega
    case c4=>omega
    intro v' w1 hown0 hgrow hnew;have hown':=ownsRow_up hown0 ho hbw hnew;obtain⟨g',cap',rfl⟩:=row_succ hown'
    have hh1:w1.heap[B]? =some (.cells cs T (0,0)):=by
     rw[hgrow.block B (by simp;omega) (fun e=>hro e.symm),Below.heap_alloc _ _ _ hBl];exact hh
    have hf2:=blk_free (j:=o) hh1;have hcu:=blk_cell hh1 HX0.out;have HFIN:=hid (FIN.out w1 _ hown' hgrow hnew);clear hown' hown0 hgrow hnew hh1 hh ho hc0 hc1 hf0 hf1 hro;go_wp2;go_end0;rw[HR.out];exact⟨rfl,HFIN.out⟩
  ·have hl0:((D.length:Int)==0)=false:=beq_eq_false_iff_ne.2 (by omega)
   by_cases h768:D.length=768∧¬c.toNat=48
   ·have hres:addD (D,P) (c.toNat-48)=(D++[1],P):=by
     unfold addD;rw[if_neg (by rintro⟨h1,h2⟩;simp only at h1;rw[h1]at hlt7;simp at hlt7),if_neg hlt7,if_pos ⟨h768.1,by omega⟩]
    have HR:=hid hres;have hq:((D.length:Int)==768)=true:=beq_iff_eq.2 (by omega);have hdg:((c.toNat:Int)!=48)=true:=by rw[bne_iff_ne];omega
    have HE1:=hid h1;have HX0:=hid h0
    have fin:∀w1:World,∀v',w1.ownsRow base 5 1 v' (D.length+1) (bs D++[.int .u8 49])→(w.alloc (.cells #[.int .u8 49] 5)).grownBy w1 (Value.ownBlock (.slice a D.length cap))→(∀g',v'.ownBlock=some g'→(Value.slice a D.length cap).ownBlock=some g'∨w.heap.size+1≤g')→
     AddPost base B o T cs w (w1.setCell ⟨B,o,none⟩ v') (.slice a D.length cap) (D++[1],P):=by
     intro w1 v' hown' hgrow hnew
     have hh1:w1.heap[B]? =some (.cells cs T (0,0)):=by
      rw[hgrow.block B (by simp;omega) (fun e=>hro e.symm),Below.heap_alloc _ _ _ hBl];exact hh
     have hro1:=row_other hown' hh1 hT;refine⟨v',?_,row_snoc (ownsRow_setCell_other hown' (a:=⟨B,o,none⟩) hro1 _) (by omega),(((Fr.refl _ w).alloc _).grown hgrow (fun k hk=>.inl (.inr hk))).setCell (.inl (.inl rfl)) _,fun g hg=>(hnew g hg).imp id (fun h=>by omega)⟩;rw[set_same (j:=o+1) (by rw[set_get_ne (by omega)];exact HE1.out)];exact heap_setCell_same w1 B o cs T v' hh1
    have FIN:=hid fin;have H7:=hid h768;have HA:=hid hA;clear hres hA h768 fin h0 h1;go_enter Tryz.func58,Tryz.ntmps58
    go_wp2_with (first
     |(at_builtin;refine wpList_append_d _ rfl _ _ 65 rfl 5 i0 (.int .u8 0) 1 1 Tryz.underlying65 hi hz0 hz1 hz2 rfl (by decide) _ _ _ rfl (ownsRow_base (ho.alloc _)) ⟨w.heap.size,0,none⟩ 1 1 [.int .u8 49] rfl rfl ?c1 ?c2 ?c3 ?c4 ?_)
     |go_in)
    case c1=>exact cell_one_new _ _ _
    case c2=>intro u hu;simp at hu;subst hu;rfl
    case c3=>unfold maxLen;omega
    case c4=>omega
    intro v' w1 hown0 hgrow hnew;have hown':=ownsRow_up hown0 ho hbw hnew;obtain⟨g',cap',rfl⟩:=row_succ hown'
    have hh1:w1.heap[B]? =some (.cells cs T (0,0)):=by
     rw[hgrow.block B (by simp;omega) (fun e=>hro e.symm),Below.heap_alloc _ _ _ hBl];exact hh
    have hf2:=blk_free (j:=o) hh1;have hcu:=blk_cell hh1 HX0.out;have HFIN:=hid (FIN.out w1 _ hown' hgrow hnew);clear hown' hown0 hgrow hnew hh1 hh ho hc0 hc1 hf0 hf1 hro;go_wp2;go_end0;rw[HR.out];exact⟨rfl,HFIN.out⟩
   ·have hres:addD (D,P) (c.toNat-48)=(D,P):=by
     unfold addD;rw[if_neg (by rintro⟨h1,h2⟩;simp only at h1;rw[h1]at hlt7;simp at hlt7),if_neg hlt7,if_neg (by rintro⟨h1,h2⟩;exact h768 ⟨h1,by omega⟩)]
    have HR:=hid hres;have HE:=hid (show(cs.setIfInBounds o (.slice a D.length cap)).setIfInBounds (o+1) (.int .i64 P)=cs by rw[set_same h0,set_same h1]);have HO:=hid ho;have HH:=hid hh;have HA:=hid hA;clear hres hA ho hh h0 h1;by_cases hq0:D.length=768
    ·have hq:((D.length:Int)==768)=true:=beq_iff_eq.2 (by omega)
     have hdg:((c.toNat:Int)!=48)=false:=by rw[bne_eq_false_iff_eq];omega
     have H7:=hid h768;have HQ:=hid hq0;clear h768 hq0;go_enter Tryz.func58,Tryz.ntmps58;go_wp2;go_end0;rw[HR.out];exact⟨rfl,_,by rw[HE.out];exact HH.out,HO.out,Fr.refl _ w,fun _ h=>.inl h⟩
    ·have hq:((D.length:Int)==768)=false:=beq_eq_false_iff_ne.2 (by omega)
     have H7:=hid h768;clear h768;go_enter Tryz.func58,Tryz.ntmps58;go_wp2;go_end0;rw[HR.out];exact⟨rfl,_,by rw[HE.out];exact HH.out,HO.out,Fr.refl _ w,fun _ h=>.inl h⟩
structure Tr where
 st:Nat
 made:List UInt8
 lack:Nat
 lo:Nat
 hi:Nat
 dg:Nat
 code:Nat
 high:Nat
def tr0:Tr:=⟨0,[],0,0,0,0,0,0⟩
def hexV (c:UInt8):Option Nat:=
 if 48≤c.toNat∧c.toNat≤57 then some (c.toNat-48)
 else if 97≤c.toNat∧c.toNat≤102 then some (c.toNat-87)
 else if 65≤c.toNat∧c.toNat≤70 then some (c.toNat-55)
 else none
def escV (c:UInt8):Option UInt8:=
 if c=34∨c=92∨c=47 then some c
 else if c=98 then some 8
 else if c=102 then some 12
 else if c=110 then some 10
 else if c=114 then some 13
 else if c=116 then some 9
 else none
def encR (n:Nat):List UInt8:=
 if n<128 then[UInt8.ofNat n]
 else if n<2048 then[UInt8.ofNat (192+n/64),UInt8.ofNat (128+n % 64)]
 else if n<65536 then[UInt8.ofNat (224+n/4096),UInt8.ofNat (128+n/64 % 64),UInt8.ofNat (128+n % 64)]
 else[UInt8.ofNat (240+n/262144),UInt8.ofNat (128+n/4096 % 64),UInt8.ofNat (128+n/64 % 64),UInt8.ofNat (128+n % 64)]
def trSev (t:Tr) (c:UInt8):Except Nat Tr:=
 if 194≤c.toNat∧c.toNat≤244 then
  .ok ⟨1,t.made++[c],if c.toNat≤223 then 1 else if c.toNat≤239 then 2 else 3,if c.toNat=224 then 160 else if c.toNat=240 then 144 else 128,if c.toNat=237 then 159 else if c.toNat=244 then 143 else 191,t.dg,t.code,t.high⟩
 else .error 2
def trChar (t:Tr) (c:UInt8):Except Nat (Tr×Bool):=
 if c=92 then .ok (⟨2,t.made,t.lack,t.lo,t.hi,t.dg,t.code,t.high⟩,false)
 else if t.high≠0 then .error 5
 else if c=34 then .ok (t,true)
 else if c.toNat<32 then .error 3
 else if c.toNat<128 then .ok (⟨t.st,t.made++[c],t.lack,t.lo,t.hi,t.dg,t.code,t.high⟩,false)
 else(trSev t c).map (fun t'=>(t',false))
def trGo (t:Tr) (c:UInt8):Except Nat Tr:=
 if c.toNat<t.lo∨t.hi<c.toNat then .error 2
 else .ok ⟨if t.lack-1=0 then 0 else t.st,t.made++[c],t.lack-1,128,191,t.dg,t.code,t.high⟩
def trEsc (t:Tr) (c:UInt8):Except Nat Tr:=
 if c=117 then .ok ⟨3,t.made,t.lack,t.lo,t.hi,0,0,t.high⟩
 else if t.high≠0 then .error 5
 else match escV c with
  |none=>.error 3
  |some x=>.ok ⟨0,t.made++[x],t.lack,t.lo,t.hi,t.dg,t.code,t.high⟩
def trEnd (t:Tr):Tr:=
 if t.high≠0 then⟨0,t.made++encR (65536+(t.high-55296)*1024+(t.code-56320)),t.lack,t.lo,t.hi,t.dg,t.code,0⟩
 else if 55296≤t.code∧t.code<56320 then⟨0,t.made,t.lack,t.lo,t.hi,t.dg,t.code,t.code⟩
 else⟨0,t.made++encR t.code,t.lack,t.lo,t.hi,t.dg,t.code,t.high⟩
def trAdd (t:Tr) (h:Nat):Tr:=⟨t.st,t.made,t.lack,t.lo,t.hi,t.dg+1,t.code*16+h,t.high⟩
def trDig (t:Tr) (c:UInt8):Except Nat Tr:=
 match hexV c with
 |none=>.error 3
 |some h=>
  if t.dg+1=1 then(if t.high≠0∧t.code*16+h≠13 then .error 5 else .ok (trAdd t h))
  else if t.dg+1=2 then(if decide (220≤t.code*16+h∧t.code*16+h<224)≠decide (t.high≠0)then .error 5 else .ok (trAdd t h))
  else if t.dg+1=4 then .ok (trEnd (trAdd t h))
  else .ok (trAdd t h)
def trNext (t:Tr) (c:UInt8):Except Nat (Tr×Bool):=
 if t.st=1 then(trGo t c).map (fun t'=>(t',false))
 else if t.st=2 then(trEsc t c).map (fun t'=>(t',false))
 else if t.st=3 then(trDig t c).map (fun t'=>(t',false))
 else trChar t c
structure TrOk (t:Tr) (k:Nat):Prop where
 st:t.st≤3
 len:t.made.length≤4*k
 lack:t.lack≤3
 lack1:t.st=1→1≤t.lack
 lo:t.lo≤255
 hi:t.hi≤255
 dg:t.st=3→t.dg≤3
 dg4:t.dg≤4
 code:t.code<65536
 codeD:t.st=3→t.code<16^t.dg
 high:t.high=0∨(55296≤t.high∧t.high<56320)
 low2:t.st=3→t.dg=2→(t.high≠0↔220≤t.code∧t.code<224)
 low3:t.st=3→t.dg=3→(t.high≠0↔220≤t.code/16∧t.code/16<224)
theorem tr0_ok:TrOk tr0 0:=by constructor<;>simp[tr0]
theorem hexV_lt {c:UInt8} {h:Nat} (e:hexV c=some h):h<16:=by
 unfold hexV at e
 repeat' split at e
 all_goals (try cases e)
 all_goals omega
theorem encR_len (n:Nat):(encR n).length≤4:=by
 unfold encR
 repeat' split
 all_goals simp
theorem TrOk.more {t:Tr} {k:Nat} (h:TrOk t k):TrOk t (k+1):=⟨h.st,by have:=h.len;omega,h.lack,h.lack1,h.lo,h.hi,h.dg,h.dg4,h.code,h.codeD,h.high,h.low2,h.low3⟩
theorem trNext_ok {t t':Tr} {k:Nat} {c:UInt8} {b:Bool} (h:TrOk t k) (e:trNext t c=.ok (t',b)):TrOk t' (k+1):=by
 have hl:=h.len;unfold trNext at e;split at e
 ·
  rename_i h1
  unfold trGo at e;split at e
  ·cases e
  ·simp only[Except.map,Except.ok.injEq,Prod.mk.injEq]at e
   obtain⟨rfl,rfl⟩:=e;have hlk:=h.lack;have hl1:=h.lack1 h1;refine⟨by simp only;split<;>omega,by simp;omega,by simp only;omega,?_,by simp only;omega,by simp only;omega,?_,h.dg4,h.code,?_,h.high,?_,?_⟩
   ·simp only;intro hh;split at hh<;>omega
   all_goals (simp only;intro hh;split at hh<;>omega)
 split at e
 ·unfold trEsc at e
  split at e
  ·simp only[Except.map,Except.ok.injEq,Prod.mk.injEq]at e
   obtain⟨rfl,rfl⟩:=e;refine⟨by simp,by simp only;omega,h.lack,by simp,h.lo,h.hi,by simp,by simp,by simp,by simp,h.high,by simp,by simp⟩
  split at e
  ·cases e
  ·cases hx:escV c with
   |none=>rw[hx]at e;cases e
   |some x=>
    rw[hx]at e;simp only[Except.map,Except.ok.injEq,Prod.mk.injEq]at e;obtain⟨rfl,rfl⟩:=e;refine⟨by simp,by simp;omega,h.lack,by simp,h.lo,h.hi,by simp,h.dg4,h.code,by simp,h.high,by simp,by simp⟩
 split at e
 ·rename_i h1 h2 h3
  unfold trDig at e;have hdg:=h.dg h3;have hcd:=h.codeD h3;have hl2:=h.low2 h3;have hl3:=h.low3 h3;cases hx:hexV c with
  |none=>rw[hx]at e;cases e
  |some x=>
   rw[hx]at e;have hlt:=hexV_lt hx;simp only at e
   have hpow:t.code*16+x<16^(t.dg+1):=by
    rw[Nat.pow_succ];omega
   have hpow4:16^(t.dg+1)≤65536:=by
    have:16^(t.dg+1)≤16^4:=Nat.pow_le_pow_right (by omega) (by omega);simpa using this
   have base:t.dg+1≤3→(t.dg+1=2→(t.high≠0↔220≤t.code*16+x∧t.code*16+x<224))→TrOk (trAdd t x) (k+1):=by
    intro hd hlow;refine⟨h.st,by show t.made.length≤_;omega,h.lack,h.lack1,h.lo,h.hi,fun _=>hd,by show t.dg+1≤4;omega,by show t.code*16+x<65536;omega,fun _=>hpow,h.high,fun _ hd2=>hlow hd2,fun _ hd3=>?_⟩;have hd3:t.dg+1=3:=hd3
    show t.high≠0↔220≤(t.code*16+x)/16∧(t.code*16+x)/16<224
    rw[show(t.code*16+x)/16=t.code by omega];exact hl2 (by omega)
   split at e
   ·rename_i hd1
    split at e
    ·cases e
    ·simp only[Except.map,Except.ok.injEq,Prod.mk.injEq]at e
     obtain⟨rfl,rfl⟩:=e;exact base (by omega) (by omega)
   split at e
   ·rename_i hd1 hd2
    split at e
    ·cases e
    ·rename_i hne
     simp only[Except.map,Except.ok.injEq,Prod.mk.injEq]at e;obtain⟨rfl,rfl⟩:=e;refine base (by omega) (fun _=>?_);simp only[ne_eq,decide_eq_decide,Classical.not_not]at hne;exact hne.symm
   split at e
   ·rename_i hd1 hd2 hd4
    simp only[Except.map,Except.ok.injEq,Prod.mk.injEq]at e;obtain⟨rfl,rfl⟩:=e;have hc64:t.code*16+x<65536:=by omega
    have he1:=encR_len (65536+(t.high-55296)*1024+(t.code*16+x-56320));have he2:=encR_len (t.code*16+x);unfold trEnd;split
    ·refine⟨by simp,?_,h.lack,by simp,h.lo,h.hi,by simp,by simp[trAdd];omega,by simp only[trAdd];omega,by simp,.inl rfl,by simp,by simp⟩
     simp only[trAdd,List.length_append]at*;omega
    split
    ·rename_i hs
     refine⟨by simp,by simp only[trAdd];omega,h.lack,by simp,h.lo,h.hi,by simp,by simp[trAdd];omega,by simp only[trAdd];omega,by simp,.inr hs,by simp,by simp⟩
    ·refine⟨by simp,?_,h.lack,by simp,h.lo,h.hi,by simp,by simp[trAdd];omega,by simp only[trAdd];omega,by simp,h.high,by simp,by simp⟩
     simp only[trAdd,List.length_append]at*;omega
   ·simp only[Except.map,Except.ok.injEq,Prod.mk.injEq]at e
    obtain⟨rfl,rfl⟩:=e;exact base (by omega) (by omega)
 ·rename_i h1 h2 h3
  have hst0:t.st=0:=by have:=h.st;omega
  unfold trChar at e;split at e
  ·simp only[Except.ok.injEq,Prod.mk.injEq]at e
   obtain⟨rfl,rfl⟩:=e;refine⟨by simp,by simp only;omega,h.lack,by simp,h.lo,h.hi,by simp,h.dg4,h.code,by simp,h.high,by simp,by simp⟩
  split at e
  ·cases e
  split at e
  ·simp only[Except.ok.injEq,Prod.mk.injEq]at e
   obtain⟨rfl,rfl⟩:=e;exact h.more
  split at e
  ·cases e
  split at e
  ·simp only[Except.ok.injEq,Prod.mk.injEq]at e
   obtain⟨rfl,rfl⟩:=e;refine⟨h.st,by simp;omega,h.lack,h.lack1,h.lo,h.hi,h.dg,h.dg4,h.code,h.codeD,h.high,h.low2,h.low3⟩
  ·unfold trSev at e
   split at e
   ·simp only[Except.map,Except.ok.injEq,Prod.mk.injEq]at e
    obtain⟨rfl,rfl⟩:=e;refine⟨by simp,by simp;omega,by simp only;split<;>(try split)<;>omega,by simp only;intro _;split<;>(try split)<;>omega,by simp only;split<;>(try split)<;>omega,by simp only;split<;>(try split)<;>omega,by simp,h.dg4,h.code,by simp,h.high,by simp,by simp⟩
   ·cases e
end Go.Proofs.YtmkkibaacclhnaaGreatDoor
