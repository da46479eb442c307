/-
  A step of the walk, the part named Tke. No theorem of the row.
-/
import Derived.Test.YtmkkibaacclhnaaGreatDoorPa
import Derived.Test.YtmkkibaacclhnaaGreatDoorTnr
import Derived.Test.YtmkkibaacclhnaaGreatDoorDlp
import Derived.Deep.DeepCutAuto
namespace Go.Proofs.YtmkkibaacclhnaaGreatDoor
open Go.RowKit
set_option maxRecDepth 100000
set_option maxHeartbeats 16000000
theorem addToPower_any (B o:Nat) (P:Int) (pw:Nat) (c:UInt8) (w:World) (h1:w.cell? ⟨B,o+3,none⟩=some (.int .i64 P)) (h2:w.cell? ⟨B,o+4,none⟩=some (.int .i64 (pw:Int)))
 (hf:w.frozen? ⟨B,o+4,none⟩=false) (hc:isD c=true) (hP1: -4000000000000000≤P) (hP2:P≤4000000000000000) (hpw:pw≤P.natAbs+632):
 Calls Tryz.prog 59 #[.pointer (some ⟨B,o,none⟩),.int .u8 (c.toNat:Int)] w fun e w'=>e=.returned (.tuple #[])∧w'=(w.setCell ⟨B,o+4,none⟩ (.int .i64 ((min (pw*10+(c.toNat-48)) (P.natAbs+632):Nat):Int))).drew:=by
 obtain⟨hcl,hch⟩:=(isD_iff c).1 hc;generalize c.toNat=x at*;go_enter Tryz.func59,Tryz.ntmps59;go_wp2;go_region
 all_goals
  go_wp2;go_end0;refine⟨rfl,?_⟩;rw[show min ((pw:Int)*10+(x-48)) (max P (-P)+309+323)=((min (pw*10+(x-48)) (P.natAbs+632):Nat):Int) by omega]
structure TkIn (cs:Array Value) (o:Nat) (v:Value) (t:Tk):Prop where
 c0:cs[o]? =some (.int .i64 (t.st:Int))
 c1:cs[o+1]? =some (.bool t.neg)
 c2:cs[o+2]? =some v
 c3:cs[o+3]? =some (.int .i64 t.P)
 c4:cs[o+4]? =some (.int .i64 (t.pw:Int))
 c5:cs[o+5]? =some (.bool t.pn)
theorem TkIn.size {cs:Array Value} {o:Nat} {v:Value} {t:Tk} (h:TkIn cs o v t):o+5<cs.size:=by
 rcases Nat.lt_or_ge (o+5) cs.size with h1|h1
 ·exact h1
 ·have:=h.c5
  rw[Array.getElem?_eq_none h1]at this;cases this
theorem get_set {cs:Array Value} {j:Nat} {v:Value} (h:j<cs.size):(cs.setIfInBounds j v)[j]? =some v:=by
 rw[Array.getElem?_setIfInBounds,if_pos rfl,if_pos h]
theorem TkIn.set0 {cs:Array Value} {o:Nat} {v:Value} {t:Tk} (h:TkIn cs o v t) (k:Nat):TkIn (cs.setIfInBounds o (.int .i64 (k:Int))) o v ⟨k,t.neg,t.D,t.P,t.pw,t.pn⟩:=by
 have hs:=h.size;exact⟨get_set (by omega),by rw[set_get_ne (by omega)];exact h.c1,by rw[set_get_ne (by omega)];exact h.c2,by rw[set_get_ne (by omega)];exact h.c3,by rw[set_get_ne (by omega)];exact h.c4,by rw[set_get_ne (by omega)];exact h.c5⟩
theorem TkIn.set1 {cs:Array Value} {o:Nat} {v:Value} {t:Tk} (h:TkIn cs o v t) (k:Bool):TkIn (cs.setIfInBounds (o+1) (.bool k)) o v ⟨t.st,k,t.D,t.P,t.pw,t.pn⟩:=by
 have hs:=h.size;exact⟨by rw[set_get_ne (by omega)];exact h.c0,get_set (by omega),by rw[set_get_ne (by omega)];exact h.c2,by rw[set_get_ne (by omega)];exact h.c3,by rw[set_get_ne (by omega)];exact h.c4,by rw[set_get_ne (by omega)];exact h.c5⟩
theorem TkIn.set2 {cs:Array Value} {o:Nat} {v:Value} {t:Tk} (h:TkIn cs o v t) (u:Value) (D:List Nat):TkIn (cs.setIfInBounds (o+2) u) o u ⟨t.st,t.neg,D,t.P,t.pw,t.pn⟩:=by
 have hs:=h.size;exact⟨by rw[set_get_ne (by omega)];exact h.c0,by rw[set_get_ne (by omega)];exact h.c1,get_set (by omega),by rw[set_get_ne (by omega)];exact h.c3,by rw[set_get_ne (by omega)];exact h.c4,by rw[set_get_ne (by omega)];exact h.c5⟩
theorem TkIn.set3 {cs:Array Value} {o:Nat} {v:Value} {t:Tk} (h:TkIn cs o v t) (P:Int):TkIn (cs.setIfInBounds (o+3) (.int .i64 P)) o v ⟨t.st,t.neg,t.D,P,t.pw,t.pn⟩:=by
 have hs:=h.size;exact⟨by rw[set_get_ne (by omega)];exact h.c0,by rw[set_get_ne (by omega)];exact h.c1,by rw[set_get_ne (by omega)];exact h.c2,get_set (by omega),by rw[set_get_ne (by omega)];exact h.c4,by rw[set_get_ne (by omega)];exact h.c5⟩
theorem TkIn.set4 {cs:Array Value} {o:Nat} {v:Value} {t:Tk} (h:TkIn cs o v t) (k:Nat):TkIn (cs.setIfInBounds (o+4) (.int .i64 (k:Int))) o v ⟨t.st,t.neg,t.D,t.P,k,t.pn⟩:=by
 have hs:=h.size;exact⟨by rw[set_get_ne (by omega)];exact h.c0,by rw[set_get_ne (by omega)];exact h.c1,by rw[set_get_ne (by omega)];exact h.c2,by rw[set_get_ne (by omega)];exact h.c3,get_set (by omega),by rw[set_get_ne (by omega)];exact h.c5⟩
theorem TkIn.set5 {cs:Array Value} {o:Nat} {v:Value} {t:Tk} (h:TkIn cs o v t) (k:Bool):TkIn (cs.setIfInBounds (o+5) (.bool k)) o v ⟨t.st,t.neg,t.D,t.P,t.pw,k⟩:=by
 have hs:=h.size;exact⟨by rw[set_get_ne (by omega)];exact h.c0,by rw[set_get_ne (by omega)];exact h.c1,by rw[set_get_ne (by omega)];exact h.c2,by rw[set_get_ne (by omega)];exact h.c3,by rw[set_get_ne (by omega)];exact h.c4,get_set (by omega)⟩
def Apart (o:Nat) (cs cs':Array Value):Prop:=cs'.size=cs.size∧∀j,j<o∨o+5<j→cs'[j]? =cs[j]?
theorem Apart.refl (o:Nat) (cs:Array Value):Apart o cs cs:=⟨rfl,fun _ _=>rfl⟩
theorem Apart.set {o:Nat} {cs cs':Array Value} (h:Apart o cs cs') (i:Nat) (hi:i≤5) (v:Value):Apart o cs (cs'.setIfInBounds (o+i) v):=
 ⟨by rw[Array.size_setIfInBounds];exact h.1,fun j hj=>by rw[set_get_ne (by omega)];exact h.2 j hj⟩
theorem Apart.set00 {o:Nat} {cs cs':Array Value} (h:Apart o cs cs') (v:Value):Apart o cs (cs'.setIfInBounds o v):=h.set 0 (by omega) v
def TkAt (base:Nat) (w:World) (B o T:Nat) (cs:Array Value) (v:Value) (t:Tk):Prop:=
 w.heap[B]? =some (.cells cs T (0,0))∧TkIn cs o v t∧w.ownsRow base 5 1 v t.D.length (bs t.D)
theorem toNat_ne {c d:UInt8} (h:c≠d):c.toNat≠d.toNat:=fun e=>h (UInt8.toNat_inj.1 e)
theorem byte_cases (c:UInt8):c=45∨c=43∨c=46∨c=48∨c=101∨c=69∨(49≤c.toNat∧c.toNat≤57)∨(c.toNat<48∧c.toNat≠45∧c.toNat≠43∧c.toNat≠46)∨(57<c.toNat∧c.toNat≠101∧c.toNat≠69):=by
 by_cases h1:c=45
 ·exact .inl h1
 by_cases h2:c=43
 ·exact .inr (.inl h2)
 by_cases h3:c=46
 ·exact .inr (.inr (.inl h3))
 by_cases h4:c=48
 ·exact .inr (.inr (.inr (.inl h4)))
 by_cases h5:c=101
 ·exact .inr (.inr (.inr (.inr (.inl h5))))
 by_cases h6:c=69
 ·exact .inr (.inr (.inr (.inr (.inr (.inl h6)))))
 have k1:=toNat_ne h1;have k2:=toNat_ne h2;have k3:=toNat_ne h3;have k4:=toNat_ne h4;have k5:=toNat_ne h5;have k6:=toNat_ne h6;simp at k1 k2 k3 k4 k5 k6;omega
theorem s_cases {s:Nat} (h:s≤8):s=0∨s=1∨s=2∨s=3∨s=4∨s=5∨s=6∨s=7∨s=8:=by omega
theorem behind_lit (s:Nat) (hs:s≤8) (c:UInt8) (hc:c=45∨c=43∨c=46∨c=48∨c=101∨c=69) (w:World):Calls Tryz.prog 57 #[.int .i64 (s:Int),.int .u8 (c.toNat:Int)] w fun e w'=>e=.returned (.int .i64 (beh s c:Nat))∧w'=w:=by
 rcases s_cases hs with rfl|rfl|rfl|rfl|rfl|rfl|rfl|rfl|rfl<;>rcases hc with rfl|rfl|rfl|rfl|rfl|rfl<;>
  (clear hs
   go_enter Tryz.func57,Tryz.ntmps57;go_wp2;go_ret
   exact⟨rfl,rfl⟩)
def digS (s:Nat):Nat:=if s=0∨s=1∨s=3 then 3 else if s=4∨s=5 then 5 else if s=6∨s=7∨s=8 then 8 else 0
theorem behind_x (s:Nat) (hs:s≤8) (x v:Nat) (hv:(49≤x∧x≤57∧v=digS s)∨(x<48∧(x≠45∧x≠43∧x≠46)∧v=0)∨(57<x∧(x≠101∧x≠69)∧v=0)) (w:World):Calls Tryz.prog 57 #[.int .i64 (s:Int),.int .u8 (x:Int)] w fun e w'=>e=.returned (.int .i64 (v:Int))∧w'=w:=by
 have e45:((x:Int)==45)=false:=beq_eq_false_iff_ne.2 (by omega);have e43:((x:Int)==43)=false:=beq_eq_false_iff_ne.2 (by omega);have e46:((x:Int)==46)=false:=beq_eq_false_iff_ne.2 (by omega);have e48:((x:Int)==48)=false:=beq_eq_false_iff_ne.2 (by omega);have e101:((x:Int)==101)=false:=beq_eq_false_iff_ne.2 (by omega);have e69:((x:Int)==69)=false:=beq_eq_false_iff_ne.2 (by omega)
 rcases hv with⟨h1,h2,rfl⟩|⟨h1,-,rfl⟩|⟨h1,-,rfl⟩<;>rcases s_cases hs with rfl|rfl|rfl|rfl|rfl|rfl|rfl|rfl|rfl<;>
  (clear hs
   go_enter Tryz.func57,Tryz.ntmps57;go_wp2;go_ret
   exact⟨rfl,rfl⟩)
theorem no_sp {c:UInt8} (h:c.toNat≠45∧c.toNat≠43∧c.toNat≠46∧c.toNat≠48∧c.toNat≠101∧c.toNat≠69):c≠45∧c≠43∧c≠46∧c≠48∧c≠101∧c≠69:=by
 refine⟨?_,?_,?_,?_,?_,?_⟩<;>(rintro rfl;simp at h)
theorem beh_dig (s:Nat) {c:UInt8} (h1:49≤c.toNat) (h2:c.toNat≤57):beh s c=digS s:=by
 have hd:isD c=true:=(isD_iff c).2 ⟨by omega,h2⟩;obtain⟨a,b,d,e,f,g⟩:=no_sp (c:=c) (by omega);unfold beh digS;simp only[hd,a,b,d,e,f,g,and_false,and_true,or_false,if_false]
theorem beh_no (s:Nat) {c:UInt8} (h:c.toNat<48∨57<c.toNat) (h2:c.toNat≠45∧c.toNat≠43∧c.toNat≠46∧c.toNat≠48∧c.toNat≠101∧c.toNat≠69):beh s c=0:=by
 have hd:isD c=false:=by
  cases hh:isD c
  ·rfl
  ·have:=(isD_iff c).1 hh;omega
 obtain⟨a,b,d,e,f,g⟩:=no_sp h2;unfold beh;simp only[hd,a,b,d,e,f,g,and_false,or_false,if_false,Bool.false_eq_true]
theorem behind_any (s:Nat) (hs:s≤8) (c:UInt8) (w:World):Calls Tryz.prog 57 #[.int .i64 (s:Int),.int .u8 (c.toNat:Int)] w fun e w'=>e=.returned (.int .i64 (beh s c:Nat))∧w'=w:=by
 rcases byte_cases c with h|h|h|h|h|h|⟨h1,h2⟩|⟨h1,h2,h3,h4⟩|⟨h1,h2,h3⟩
 iterate 6 exact behind_lit s hs c (by simp[h]) w
 ·rw[beh_dig s h1 h2];exact behind_x s hs _ _ (.inl ⟨h1,h2,rfl⟩) w
 ·rw[beh_no s (.inl h1) (by omega)];exact behind_x s hs _ _ (.inr (.inl ⟨h1,⟨h2,h3,h4⟩,rfl⟩)) w
 ·rw[beh_no s (.inr h1) (by omega)];exact behind_x s hs _ _ (.inr (.inr ⟨h1,⟨h2,h3⟩,rfl⟩)) w
def NextPost (base B o T:Nat) (cs:Array Value) (v:Value) (w w':World) (t':Tk):Prop:=
 ∃cs' v',TkAt base w' B o T cs' v' t'∧Apart o cs cs'∧Fr (fun i=>i=B∨v.ownBlock=some i) w w'∧Newer v v' w
theorem TkAt.setCell {base:Nat} {w:World} {B o T:Nat} {cs:Array Value} {v:Value} {t:Tk} (hT:T≠5) (h:TkAt base w B o T cs v t) (j:Nat) (u:Value) (t':Tk) (hD:t'.D=t.D) (hi:TkIn (cs.setIfInBounds j u) o v t'):
 TkAt base (w.setCell ⟨B,j,none⟩ u) B o T (cs.setIfInBounds j u) v t':=by
 obtain⟨h1,h2,h3⟩:=h;refine⟨heap_setCell_same w B j cs T u h1,hi,?_⟩;rw[hD];exact ownsRow_setCell_other h3 (a:=⟨B,j,none⟩) (row_other h3 h1 hT) u
theorem TkAt.drew {base:Nat} {w:World} {B o T:Nat} {cs:Array Value} {v:Value} {t:Tk} (h:TkAt base w B o T cs v t):TkAt base w.drew B o T cs v t:=h
theorem nxt_of {t:Tk} {c:UInt8} {k:Nat} (h:beh t.st c=k) (hk:k≠0):nxt t c=some (nxtTo t c k):=by
 rw[nxt,h,if_neg hk]
theorem next_none (base B o T:Nat) (cs:Array Value) (v:Value) (t:Tk) (c:UInt8) (w:World) (hst:t.st≤8) (ht:TkAt base w B o T cs v t) (hn:beh t.st c=0):
 Calls Tryz.prog 36 #[.pointer (some ⟨B,o,none⟩),.int .u8 (c.toNat:Int)] w fun e w'=>e=.returned (.bool false)∧w'=w:=by
 have hc0:=blk_cell ht.1 ht.2.1.c0;have HN:=hid hn;clear hn ht;go_enter Tryz.func36,Tryz.ntmps36
 go_wp2_with (go_at_call 57;refine(behind_any t.st hst c _).mono ?_;rintro e w' ⟨rfl,rfl⟩;rw[HN.out])
 go_ret;exact⟨rfl,rfl⟩
theorem next_some (base B o T:Nat) (cs:Array Value) (v:Value) (t:Tk) (c:UInt8) (w:World) (k:Nat) (hT:T≠5) (hbw:base≤w.heap.size) (hk:k≤1000000000000000) (hok:TkOk t k) (ht:TkAt base w B o T cs v t) (hn:beh t.st c≠0):
 Calls Tryz.prog 36 #[.pointer (some ⟨B,o,none⟩),.int .u8 (c.toNat:Int)] w fun e w'=>e=.returned (.bool true)∧NextPost base B o T cs v w w' (nxtTo t c (beh t.st c)):=by
 have hst:=hok.st;have hp1:=hok.p1;have hp2:=hok.p2;have hpw:=hok.pw;have hlen:=hok.len;have hb:=beh_lt t.st c;have hdig:= @beh_digit t.st c;obtain⟨hh,hI,ho⟩:=ht;have hc0:=blk_cell hh hI.c0;have hc1:=blk_cell hh hI.c1;have hc2:=blk_cell hh hI.c2;have hc3:=blk_cell hh hI.c3;have hc4:=blk_cell hh hI.c4;have hc5:=blk_cell hh hI.c5;have hf0:=blk_free (j:=o) hh;have hf1:=blk_free (j:=o+1) hh;have hf2:=blk_free (j:=o+2) hh;have hf3:=blk_free (j:=o+3) hh;have hf4:=blk_free (j:=o+4) hh;have hf5:=blk_free (j:=o+5) hh;have HH:=hid (show TkAt base w B o T cs v t from⟨hh,hI,ho⟩);clear hok hI ho;obtain hq|hq|hq|hq|hq|hq|hq|hq:beh t.st c=1∨beh t.st c=2∨beh t.st c=3∨beh t.st c=4∨beh t.st c=5∨beh t.st c=6∨beh t.st c=7∨beh t.st c=8:=by omega
 ·have HQ:=hid hq
  rw[hq];clear hq hn hdig hb hh;go_enter Tryz.func36,Tryz.ntmps36
  go_wp2_with (go_at_call 57;refine(behind_any t.st hst c _).mono ?_;rintro e w' ⟨rfl,rfl⟩;rw[HQ.out])
  go_ret;exact⟨rfl,_,v,TkAt.setCell hT (TkAt.setCell hT HH.out (o+1) _ ⟨t.st,true,t.D,t.P,t.pw,t.pn⟩ rfl (HH.out.2.1.set1 true)) o _ _ rfl ((HH.out.2.1.set1 true).set0 1),((Apart.refl o cs).set 1 (by omega) _).set00 _,((Fr.refl _ _).setCell (.inl (.inl rfl)) _).setCell (.inl (.inl rfl)) _,fun _ h=>.inl h⟩
 ·have HQ:=hid hq
  have hd:=hdig (by omega);rw[hq];have HF:=hid (heap_setCell_same w B (o+2+1) cs T (.int .i64 (t.P+1)) hh);have HI1:=hid (HH.out.2.1.set3 (t.P+1));have HO1:=hid (ownsRow_setCell_other HH.out.2.2 (a:=⟨B,o+2+1,none⟩) (row_other HH.out.2.2 hh hT) (.int .i64 (t.P+1)));clear hq hn hdig hb hh;go_enter Tryz.func36,Tryz.ntmps36
  go_wp2_with (first|(go_at_call 57;refine(behind_any t.st hst c _).mono ?_;rintro e w' ⟨rfl,rfl⟩;rw[HQ.out])|fail)
  refine(add_any base B (o+2) T _ t.D (t.P+1) c v _ hT (by simpa using hbw) HF.out HI1.out.c2 HI1.out.c3 HO1.out hlen (by omega) (by omega) hd).mono ?_;rintro e w2 ⟨rfl,v',a1,a2,a3,a4⟩;have hI2:=(HI1.out.set2 v' (addD (t.D,t.P+1) (c.toNat-48)).1).set3 (addD (t.D,t.P+1) (c.toNat-48)).2;have hT2:TkAt base w2 B o T _ v' _:=⟨a1,hI2,a2⟩;have hcx:=blk_cell a1 hI2.c0;have hfx:=blk_free (j:=o) a1;have HT2:=hid hT2;have HA3:=hid a3;have HA4:=hid a4;have HI2:=hid hI2;clear hT2 hI2 a1 a2 a3 a4 hc0 hc1 hc2 hc3 hc4 hc5 hf0 hf1 hf2 hf3 hf4 hf5;go_wp2;go_ret;exact⟨rfl,_,v',TkAt.setCell hT HT2.out o _ _ rfl (HI2.out.set0 2),((((Apart.refl o cs).set 3 (by omega) _).set 2 (by omega) _).set 3 (by omega) _).set00 _,(((Fr.refl _ _).setCell (.inl (.inl rfl)) _).trans HA3.out).setCell (.inl (.inl rfl)) _,fun g hg=>by have:=HA4.out g hg;simpa using this⟩
 ·have HQ:=hid hq
  have hd:=hdig (by omega);rw[hq];have HF:=hid (heap_setCell_same w B (o+2+1) cs T (.int .i64 (t.P+1)) hh);have HI1:=hid (HH.out.2.1.set3 (t.P+1));have HO1:=hid (ownsRow_setCell_other HH.out.2.2 (a:=⟨B,o+2+1,none⟩) (row_other HH.out.2.2 hh hT) (.int .i64 (t.P+1)));clear hq hn hdig hb hh;go_enter Tryz.func36,Tryz.ntmps36
  go_wp2_with (first|(go_at_call 57;refine(behind_any t.st hst c _).mono ?_;rintro e w' ⟨rfl,rfl⟩;rw[HQ.out])|fail)
  refine(add_any base B (o+2) T _ t.D (t.P+1) c v _ hT (by simpa using hbw) HF.out HI1.out.c2 HI1.out.c3 HO1.out hlen (by omega) (by omega) hd).mono ?_;rintro e w2 ⟨rfl,v',a1,a2,a3,a4⟩;have hI2:=(HI1.out.set2 v' (addD (t.D,t.P+1) (c.toNat-48)).1).set3 (addD (t.D,t.P+1) (c.toNat-48)).2;have hT2:TkAt base w2 B o T _ v' _:=⟨a1,hI2,a2⟩;have hcx:=blk_cell a1 hI2.c0;have hfx:=blk_free (j:=o) a1;have HT2:=hid hT2;have HA3:=hid a3;have HA4:=hid a4;have HI2:=hid hI2;clear hT2 hI2 a1 a2 a3 a4 hc0 hc1 hc2 hc3 hc4 hc5 hf0 hf1 hf2 hf3 hf4 hf5;go_wp2;go_ret;exact⟨rfl,_,v',TkAt.setCell hT HT2.out o _ _ rfl (HI2.out.set0 3),((((Apart.refl o cs).set 3 (by omega) _).set 2 (by omega) _).set 3 (by omega) _).set00 _,(((Fr.refl _ _).setCell (.inl (.inl rfl)) _).trans HA3.out).setCell (.inl (.inl rfl)) _,fun g hg=>by have:=HA4.out g hg;simpa using this⟩
 ·have HQ:=hid hq
  rw[hq];clear hq hn hdig hb hh;go_enter Tryz.func36,Tryz.ntmps36
  go_wp2_with (go_at_call 57;refine(behind_any t.st hst c _).mono ?_;rintro e w' ⟨rfl,rfl⟩;rw[HQ.out])
  go_ret;exact⟨rfl,_,v,TkAt.setCell hT HH.out o _ _ rfl (HH.out.2.1.set0 4),(Apart.refl o cs).set00 _,(Fr.refl _ _).setCell (.inl (.inl rfl)) _,fun _ h=>.inl h⟩
 ·have HQ:=hid hq
  have hd:=hdig (by omega);rw[hq];have HF:=hid hh;clear hq hn hdig hb hh;go_enter Tryz.func36,Tryz.ntmps36
  go_wp2_with (first|(go_at_call 57;refine(behind_any t.st hst c _).mono ?_;rintro e w' ⟨rfl,rfl⟩;rw[HQ.out])|fail)
  refine(add_any base B (o+2) T cs t.D t.P c v _ hT hbw HF.out HH.out.2.1.c2 HH.out.2.1.c3 HH.out.2.2 hlen (by omega) (by omega) hd).mono ?_;rintro e w2 ⟨rfl,v',a1,a2,a3,a4⟩;have hI2:=(HH.out.2.1.set2 v' (addD (t.D,t.P) (c.toNat-48)).1).set3 (addD (t.D,t.P) (c.toNat-48)).2;have hT2:TkAt base w2 B o T _ v' _:=⟨a1,hI2,a2⟩;have hcx:=blk_cell a1 hI2.c0;have hfx:=blk_free (j:=o) a1;have HT2:=hid hT2;have HA3:=hid a3;have HA4:=hid a4;have HI2:=hid hI2;clear hT2 hI2 a1 a2 a3 a4 hc0 hc1 hc2 hc3 hc4 hc5 hf0 hf1 hf2 hf3 hf4 hf5;go_wp2;go_ret;exact⟨rfl,_,v',TkAt.setCell hT HT2.out o _ _ rfl (HI2.out.set0 5),(((Apart.refl o cs).set 2 (by omega) _).set 3 (by omega) _).set00 _,HA3.out.setCell (.inl (.inl rfl)) _,fun g hg=>by have:=HA4.out g hg;simpa using this⟩
 ·have HQ:=hid hq
  rw[hq];clear hq hn hdig hb hh;go_enter Tryz.func36,Tryz.ntmps36
  go_wp2_with (go_at_call 57;refine(behind_any t.st hst c _).mono ?_;rintro e w' ⟨rfl,rfl⟩;rw[HQ.out])
  go_ret;exact⟨rfl,_,v,TkAt.setCell hT HH.out o _ _ rfl (HH.out.2.1.set0 6),(Apart.refl o cs).set00 _,(Fr.refl _ _).setCell (.inl (.inl rfl)) _,fun _ h=>.inl h⟩
 ·have HQ:=hid hq
  rw[hq]
  have he:(((c.toNat:Int)==45))=decide (c=45):=by
   by_cases h:c=45
   ·subst h;decide
   ·have:=toNat_ne h
    simp at this;rw[decide_eq_false h];exact beq_eq_false_iff_ne.2 (by omega)
  have HE:=hid he;clear hq hn hdig hb hh he;go_enter Tryz.func36,Tryz.ntmps36
  go_wp2_with (go_at_call 57;refine(behind_any t.st hst c _).mono ?_;rintro e w' ⟨rfl,rfl⟩;rw[HQ.out])
  go_ret;rw[HE.out];exact⟨rfl,_,v,TkAt.setCell hT (TkAt.setCell hT HH.out (o+5) _ ⟨t.st,t.neg,t.D,t.P,t.pw,decide (c=45)⟩ rfl (HH.out.2.1.set5 (decide (c=45)))) o _ _ rfl ((HH.out.2.1.set5 (decide (c=45))).set0 7),((Apart.refl o cs).set 5 (by omega) _).set00 _,((Fr.refl _ _).setCell (.inl (.inl rfl)) _).setCell (.inl (.inl rfl)) _,fun _ h=>.inl h⟩
 ·have HQ:=hid hq
  have hd:=hdig (by omega);rw[hq];clear hq hn hdig hb hh;go_enter Tryz.func36,Tryz.ntmps36
  go_wp2_with (first|(go_at_call 57;refine(behind_any t.st hst c _).mono ?_;rintro e w' ⟨rfl,rfl⟩;rw[HQ.out])|fail)
  refine(addToPower_any B o t.P t.pw c _ hc3 hc4 hf4 hd (by omega) (by omega) hpw).mono ?_;rintro e w2 ⟨rfl,rfl⟩;have hI2:=HH.out.2.1.set4 (min (t.pw*10+(c.toNat-48)) (t.P.natAbs+632));have hT2:=TkAt.setCell hT HH.out (o+4) (.int .i64 ((min (t.pw*10+(c.toNat-48)) (t.P.natAbs+632):Nat):Int)) ⟨t.st,t.neg,t.D,t.P,min (t.pw*10+(c.toNat-48)) (t.P.natAbs+632),t.pn⟩ rfl hI2;have hcx:=blk_cell hT2.1 hI2.c0;have hfx:=blk_free (j:=o) hT2.1;have HT2:=hid hT2;have HI2:=hid hI2;clear hT2 hI2 hc0 hc1 hc2 hc3 hc4 hc5 hf0 hf1 hf2 hf3 hf4 hf5;go_wp2;go_ret;exact⟨rfl,_,v,TkAt.setCell hT (TkAt.drew HT2.out) o _ _ rfl (HI2.out.set0 8),((Apart.refl o cs).set 4 (by omega) _).set00 _,(((Fr.refl _ _).setCell (p:=⟨B,o+4,none⟩) (.inl (.inl rfl)) _).drew).setCell (.inl (.inl rfl)) _,fun _ h=>.inl h⟩
def byt (D:List Nat):List UInt8:=D.map (fun d=>UInt8.ofNat (48+d))
theorem byt_digs {D:List Nat} (h:Digs D):bs D=(byt D).map (fun c=>Value.int .u8 ((c.toNat:Nat):Int)):=by
 unfold bs byt;rw[List.map_map];apply List.map_congr_left;intro d hd;have:=h d hd;have e:(UInt8.ofNat (48+d)).toNat=48+d:=UInt8.toNat_ofNat_of_lt' (by show _<256;omega);simp only[Function.comp];rw[e]
theorem byte_less {a b:Nat} (ha:a≤9) (hb:b≤9):(decide (UInt8.ofNat (48+a)<UInt8.ofNat (48+b))=decide (a<b))∧((UInt8.ofNat (48+a)==UInt8.ofNat (48+b))=decide (a=b)):=by
 have e1:(UInt8.ofNat (48+a)).toNat=48+a:=UInt8.toNat_ofNat_of_lt' (by show _<256;omega);have e2:(UInt8.ofNat (48+b)).toNat=48+b:=UInt8.toNat_ofNat_of_lt' (by show _<256;omega);constructor
 ·rw[decide_eq_decide,UInt8.lt_iff_toNat_lt,e1,e2];omega
 ·by_cases h:a=b
  ·subst h;simp
  ·rw[decide_eq_false h]
   apply beq_eq_false_iff_ne.2;intro e;have:=congrArg UInt8.toNat e;rw[e1,e2]at this;omega
theorem less_bytes (a b:List Nat) (ha:Digs a) (hb:Digs b):Op.bytesLess (byt a) (byt b)=dLess a b:=by
 induction a generalizing b with
 |nil=>cases b<;>rfl
 |cons x a ih=>
  cases b with
  |nil=>rfl
  |cons y b=>
   have hx:=byte_less (ha x List.mem_cons_self) (hb y List.mem_cons_self)
   show(decide (UInt8.ofNat (48+x)<UInt8.ofNat (48+y))||((UInt8.ofNat (48+x)==UInt8.ofNat (48+y))&&Op.bytesLess (byt a) (byt b)))=_
   rw[hx.1,hx.2,ih b (fun d hd=>ha d (List.mem_cons_of_mem _ hd)) (fun d hd=>hb d (List.mem_cons_of_mem _ hd))];rfl
theorem cell_alloc2 (w:World) (a b:Value) (T:Nat) (o:Obj):((w.alloc (.cells #[a,b] T)).alloc o).drew.cell? ⟨w.heap.size,0,none⟩=some a∧((w.alloc (.cells #[a,b] T)).alloc o).drew.cell? ⟨w.heap.size,1,none⟩=some b:=by
 have h:((w.alloc (.cells #[a,b] T)).alloc o).drew.heap[w.heap.size]? =some (.cells #[a,b] T (0,0)):=(Below.heap_alloc _ _ _ (by simp)).trans (heap_alloc_new w _);exact⟨two_cell0 h,two_cell1 h⟩
theorem decimalOf_any (B o:Nat) (v:Value) (P:Int) (pw:Nat) (pn:Bool) (w:World) (h2:w.cell? ⟨B,o+2,none⟩=some v) (h3:w.cell? ⟨B,o+3,none⟩=some (.int .i64 P)) (h4:w.cell? ⟨B,o+4,none⟩=some (.int .i64 (pw:Int))) (h5:w.cell? ⟨B,o+5,none⟩=some (.bool pn))
 (hB:B<w.heap.size) (a:Option Addr) (n cap:Nat) (hv:v=.slice a n cap) (hP1: -4000000000000000≤P) (hP2:P≤4000000000000000) (hpw:pw≤8000000000000000):
 Calls Tryz.prog 60 #[.pointer (some ⟨B,o,none⟩)] w fun e w'=>e=.returned (.agg #[v,.int .i64 (if pn then P-pw else P+pw)])∧Fr (fun _=>False) w w':=by
 subst hv;cases pn
 ·go_enter Tryz.func60,Tryz.ntmps60
  go_wp2;go_region
  all_goals
   go_wp2;refine bodyPost_ret (v:=.agg #[.slice a n cap,.int .i64 (P+pw)]) ?_ rfl ?_
   ·have g0:=cell_alloc2 w (.slice a n cap) (.int .i64 (P+pw)) 89 (Obj.cells #[Value.slice a n cap,Value.int IntKind.i64 (P+pw)] 89)
    simp[results,Tryz.results60,go_sem,g0.1,g0.2]
   ·exact⟨rfl,(((Fr.refl _ _).alloc _).alloc _).drew⟩
 ·go_enter Tryz.func60,Tryz.ntmps60
  go_wp2;go_region
  all_goals
   go_wp2;refine bodyPost_ret (v:=.agg #[.slice a n cap,.int .i64 (P-pw)]) ?_ rfl ?_
   ·have g0:=cell_alloc2 w (.slice a n cap) (.int .i64 (P-pw)) 89 (Obj.cells #[Value.slice a n cap,Value.int IntKind.i64 (P-pw)] 89)
    simp[results,Tryz.results60,go_sem,g0.1,g0.2]
   ·exact⟨rfl,(((Fr.refl _ _).alloc _).alloc _).drew⟩
theorem outOfRange_any (v:Value) (D:List Nat) (P:Int) (w:World) (hD:Digs D) (hlen:D.length≤800) (ho:w.ownsRow 0 5 1 v D.length (bs D)):
 Calls Tryz.prog 61 #[.agg #[v,.int .i64 P]] w fun e w'=>e=.returned (.bool (oor D P))∧Fr (fun _=>False) w w':=by
 obtain⟨a,cap,rfl⟩:=row_shape ho;by_cases h0:D.length=0
 ·have hR:Hid (oor D P=false):=if_pos (.inl (List.eq_nil_of_length_eq_zero h0))
  have hl0:((D.length:Int)==0)=true:=beq_iff_eq.2 (by omega);clear ho;go_enter Tryz.func61,Tryz.ntmps61;go_wp2;go_ret;exact⟨by rw[hR.out];rfl,(Fr.refl _ _).alloc _⟩
 ·have hDn:D≠[]:=by rintro rfl;exact h0 rfl
  have hl0:((D.length:Int)==0)=false:=beq_eq_false_iff_ne.2 (by omega);by_cases h1:P<309
  ·have hR:Hid (oor D P=false):=if_pos (.inr h1)
   clear ho;have HD:=hid hDn;clear hDn;go_enter Tryz.func61,Tryz.ntmps61;go_wp2;go_ret;exact⟨by rw[hR.out];rfl,(Fr.refl _ _).alloc _⟩
  ·by_cases h2:309<P
   ·have hR:Hid (oor D P=true):=by rw[Hid,oor,if_neg (by intro h;rcases h with h|h;exact hDn h;exact h1 h),if_pos h2]
    clear ho;have HD:=hid hDn;clear hDn;go_enter Tryz.func61,Tryz.ntmps61;go_wp2;go_ret;exact⟨by rw[hR.out];rfl,(Fr.refl _ _).alloc _⟩
   ·have hR:Hid (oor D P= !dLess D bnd):=by rw[Hid,oor,if_neg (by intro h;rcases h with h|h;exact hDn h;exact h1 h),if_neg h2]
    obtain⟨g,cap',hv⟩:=row_pos ho (by omega);simp at hv;obtain⟨rfl,rfl⟩:=hv;have hg:g<w.heap.size:=(ho.lt g rfl).2
    have hr:(convert 65 9 (.slice (some ⟨g,0,none⟩) D.length cap)).run Tryz.prog (w.alloc (.cells #[.slice (some ⟨g,0,none⟩) D.length cap,.int .i64 P] 89))=.ok (.string (ofL (byt D))) (w.alloc (.cells #[.slice (some ⟨g,0,none⟩) D.length cap,.int .i64 P] 89)):=by
     have:=run_convert_bytes_arg (P:=Tryz.prog) (w.alloc (.cells #[.slice (some ⟨g,0,none⟩) D.length cap,.int .i64 P] 89)) 65 5 Tryz.underlying65 Tryz.underlying5 g 0 D.length cap ((byt D).map (fun c=>((c.toNat:Nat):Int))) (by simp[byt]) (by
      intro i hi;rw[Nat.zero_add,World.cell?_of_block (w:=w) (Below.heap_alloc w _ g hg),ho.cellAt i (by omega),byt_digs hD,List.getElem?_map];have hi':i<(byt D).length:=by simpa[byt]using hi
      simp[List.getD,List.getElem?_eq_getElem hi']) 9 Tryz.underlying9
     rw[this,strOf_nums]
    have HD:=hid hDn;clear hDn ho;go_enter Tryz.func61,Tryz.ntmps61;go_wp2;go_ret;refine⟨?_,(Fr.refl _ _).alloc _⟩;rw[hR.out,←less_bytes D bnd hD bnd_digs];have hq:Op.bytesLess (ofL (byt D)).toList (byt bnd)=Op.bytesLess (byt D) (byt bnd):=by rw[ofL_toList]
    rw[←hq];rfl
theorem ownsRow_fr {w w':World} {base e size:Nat} {v:Value} {n:Nat} {xs:List Value} (h:w.ownsRow base e size v n xs) (hF:Fr (fun _=>False) w w'):w'.ownsRow base e size v n xs:=by
 obtain⟨h1,h2⟩:=h;refine⟨h1,?_⟩;rcases h2 with h2|⟨g,cap,cur,hv,hg,hh,hr⟩
 ·exact .inl h2
 ·exact .inr ⟨g,cap,cur,hv,hg,(hF.block g (lt_of_block hh) id).trans hh,hr⟩
theorem value_none (base B o T:Nat) (cs:Array Value) (v:Value) (t:Tk) (w:World) (ht:TkAt base w B o T cs v t) (hE:¬Ends t.st):
 Calls Tryz.prog 37 #[.pointer (some ⟨B,o,none⟩)] w fun e w'=>e=.returned (.tuple #[.int .u64 0,.int .i64 3])∧w'=w:=by
 have hc0:=blk_cell ht.1 ht.2.1.c0;unfold Ends at hE;have e2:((t.st:Int)==2)=false:=beq_eq_false_iff_ne.2 (by omega);have e3:((t.st:Int)==3)=false:=beq_eq_false_iff_ne.2 (by omega);have e5:((t.st:Int)==5)=false:=beq_eq_false_iff_ne.2 (by omega);have e8:((t.st:Int)==8)=false:=beq_eq_false_iff_ne.2 (by omega);clear ht hE;go_enter Tryz.func37,Tryz.ntmps37;go_wp2;go_ret2;exact⟨rfl,rfl⟩
def Tk.at (t:Tk):Int:=if t.pn then t.P-t.pw else t.P+t.pw
theorem value_some (base B o T:Nat) (cs:Array Value) (v:Value) (t:Tk) (w:World) (k:Nat) (hk:k≤1000000000000000) (hok:TkOk t k) (ht:TkAt base w B o T cs v t) (hE:Ends t.st):
 Calls Tryz.prog 37 #[.pointer (some ⟨B,o,none⟩)] w fun e w'=>∃r,NearV t.D t.at r∧e=.returned (.tuple #[.int .u64 ((parseV t.neg r).1:Nat),.int .i64 ((parseV t.neg r).2:Nat)])∧Fr (fun _=>False) w w':=by
 have hp1:=hok.p1;have hp2:=hok.p2;have hpw:=hok.pw;have hlen:=hok.len;obtain⟨hh,hI,ho⟩:=ht;have hc0:=blk_cell hh hI.c0;have hc1:=blk_cell hh hI.c1;have hc2:=blk_cell hh hI.c2;have hc3:=blk_cell hh hI.c3;have hc4:=blk_cell hh hI.c4;have hc5:=blk_cell hh hI.c5;have hBl:=lt_of_block hh;obtain⟨a,cap,rfl⟩:=row_shape ho
 have hat: -3000000000000000≤t.at∧t.at≤3000000000000000:=by
  unfold Tk.at;split<;>omega
 have HO:=hid (ownsRow_base ho);have HD:=hid hok.digs;have HH:=hid hok.head;have HE:Hid (∀q:Int,(q=2∨q=3∨q=5∨q=8)∨True):=fun _=>.inr trivial
 clear hok hI ho hh HE;rcases hE with hq|hq|hq|hq
 all_goals
  rw[hq]at hc0;clear hq;have hcall:∀w1:World,Fr (fun _=>False) w w1→w1.cell? ⟨B,o+1,none⟩=some (.bool t.neg):=fun w1 hF=>(hF.cell (p:=⟨B,o+1,none⟩) hBl id).trans hc1
  have HC:=hid hcall;clear hcall;go_enter Tryz.func37,Tryz.ntmps37
  go_wp2_with fail
  refine(decimalOf_any B o _ t.P t.pw t.pn _ hc2 hc3 hc4 hc5 hBl a t.D.length cap rfl (by omega) (by omega) (by omega)).mono ?_;rintro e w1 ⟨rfl,hF1⟩;have hat2:(if t.pn=true then t.P-(t.pw:Int)else t.P+(t.pw:Int))=t.at:=rfl;rw[hat2];have hd1:=HC.out w1 hF1;have HF1:=hid hF1;have HO1:=hid (ownsRow_fr HO.out (HF1.out.alloc (.cells #[.slice a t.D.length cap,.int .i64 t.at] 89)));clear hF1 hat2 hc0 hc1 hc2 hc3 hc4 hc5
  go_wp2_with fail
  refine(outOfRange_any _ t.D t.at _ HD.out (by omega) HO1.out).mono ?_;rintro e w2 ⟨rfl,hF2⟩;have hF12:=(HF1.out.alloc (.cells #[.slice a t.D.length cap,.int .i64 t.at] 89)).trans hF2;have hd2:=HC.out w2 hF12;have hb0:=(hF2.cell (p:=⟨w1.heap.size,0,none⟩) (by simp) id).trans (cell_alloc_at _ _ _ _);have hb1:=(hF2.cell (p:=⟨w1.heap.size,1,none⟩) (by simp) id).trans (cell_alloc_at _ _ _ _);simp only[List.getElem?_toArray,List.getElem?_cons_zero,List.getElem?_cons_succ]at hb0 hb1;have HF2:=hid hF12;have HO2:=hid (ownsRow_fr HO1.out hF2);clear hF2 hF12 hd1;by_cases hr:oor t.D t.at=true
  ·rw[hr]
   have HR:=hid hr;clear hr;go_wp2;go_ret2;exact⟨9218868437227405312,⟨fun _=>rfl,fun h=>(by rw[HR.out]at h;cases h)⟩,rfl,HF2.out⟩
  ·have hr':oor t.D t.at=false:=by simpa using hr
   rw[hr']
   have hP9:t.D≠[]→t.at≤309:=by
    intro h1;unfold oor at hr';by_cases h2:309<t.at
    ·rw[if_neg (by intro h;rcases h with h|h;exact h1 h;omega),if_pos h2]at hr'
     cases hr'
    ·omega
   have HR:=hid hr';have HP9:=hid hP9;clear hr hr' hP9
   go_wp2_with fail
   refine(nearest_any _ t.D t.at _ HD.out (by omega) HH.out (by omega) HP9.out HO2.out).mono ?_;rintro e w3 ⟨r,rfl,hr,hF3⟩;have hlt:=near_lt HD.out HP9.out HR.out hr;have HV:=hid (show NearV t.D t.at r from⟨fun h=>(by rw[HR.out]at h;cases h),fun _=>⟨hr,hlt⟩⟩);have hF23:=HF2.out.trans hF3;have hd3:=HC.out w3 hF23;have HFin:=hid hF23;have HLT:=hid hlt;clear hr hF3 hF23 hlt hd2 HF2 HO2 HO1 HO HF1 HC HR HP9 hb0 hb1 hat hBl;cases hn:t.neg
   ·have hv:Hid (parseV t.neg r=(r,0)):=by rw[Hid,hn];exact if_neg (by have:=HLT.out;omega)
    rw[hn]at hd3;clear hn;go_wp2;go_ret2;exact⟨r,HV.out,by rw[hv.out];rfl,HFin.out⟩
   ·have hv:Hid (parseV t.neg r=(r+9223372036854775808,0)):=by rw[Hid,hn];exact if_neg (by have:=HLT.out;omega)
    rw[hn]at hd3;clear hn;go_wp2;go_ret2;refine⟨r,HV.out,?_,HFin.out⟩;rw[hv.out,←or_sign r (by have:=HLT.out;omega)];rfl
def PPost (l:List UInt8) (e:Ending):Prop:=
 (∀t,run t0 l=some t→Ends t.st→∃r,NearV t.D t.at r∧e=.returned (.tuple #[.int .u64 ((parseV t.neg r).1:Nat),.int .i64 ((parseV t.neg r).2:Nat)]))∧
 ((∀t,run t0 l=some t→¬Ends t.st)→e=.returned (.tuple #[.int .u64 0,.int .i64 3]))
def PInv (w:World) (l:List UInt8) (k:Nat) (wr:World):Prop:=
 ∃t cs v,run t0 (l.take k)=some t∧TkOk t k∧PwZero t∧TkAt w.heap.size wr w.heap.size 0 91 cs v t∧Fr (fun _=>False) w wr
theorem pinv_start (w:World) (l:List UInt8):PInv w l 0 (w.alloc (.cells #[.int .i64 0,.bool false,.slice none 0 0,.int .i64 0,.int .i64 0,.bool false] 91)):=
 ⟨t0,_,.slice none 0 0,by simp[run],t0_ok,fun _=>rfl,⟨heap_alloc_new _ _,⟨rfl,rfl,rfl,rfl,rfl,rfl⟩,World.ownsRow_nil _ _ _ _⟩,(Fr.refl _ _).alloc _⟩
theorem pinv_next {w wr w':World} {l:List UInt8} {k:Nat} {t:Tk} {cs:Array Value} {v:Value} (hk:k<l.length) (h1:run t0 (l.take k)=some t) (h2:TkOk t k) (h3:PwZero t) (h4:TkAt w.heap.size wr w.heap.size 0 91 cs v t) (h5:Fr (fun _=>False) w wr)
 (hb:beh t.st l[k]≠0) (hn:NextPost w.heap.size w.heap.size 0 91 cs v wr w' (nxtTo t l[k] (beh t.st l[k]))):PInv w l (k+1) w':=by
 obtain⟨cs',v',a1,_,a3,_⟩:=hn;have hx:nxt t l[k]=some (nxtTo t l[k] (beh t.st l[k])):=nxt_of rfl hb;have hy:=nxt_ok h2 h3 hx;refine⟨_,cs',v',?_,hy.1,hy.2,a1,h5.trans' a3 ?_⟩
 ·rw[List.take_succ_eq_append_getElem hk,run_snoc _ h1,hx]
 ·intro i hi
  rcases hi with rfl|hi
  ·exact .inr (Nat.le_refl _)
  ·exact .inr (h4.2.2.lt i hi).1
theorem parse_run (l:List UInt8) (w:World) (hl:l.length≤1000000000000000):
 Calls Tryz.prog 22 #[.string (ofL l)] w fun e w'=>PPost l e∧Fr (fun _=>False) w w':=by
 have hsz:=ofL_size l;go_enter Tryz.func22,Tryz.ntmps22;go_wp2
 go_loopw [8] (fun i wr=>∃k:Nat,k≤l.length∧i=.int .i64 k∧PInv w l k wr) (fun i _=>l.length-(intOf i).toNat)
 case atStart=>exact⟨0,by omega,rfl,pinv_start w l⟩
 case round=>
  obtain⟨k,hk,rfl,t,cs,v,h1,h2,h3,h4,h5⟩:=hrel;have H1:=hid h1;have H3:=hid h3;have H5:=hid h5;have H4:=hid h4;have H2:=hid h2;have hws:=h5.size;clear h1 h2 h3 h4 h5;by_cases hlt:k<l.length
  ·have hg:(ofL l)[k]'(by rw[hsz];exact hlt)=l[k]:=ofL_get l k _
   by_cases hb:beh t.st l[k]=0
   ·have HB:=hid hb
    clear hb
    go_wp2_with (go_at_call 36;refine(next_none _ _ _ _ _ _ t l[k] _ H2.out.st H4.out HB.out).mono ?_;rintro e w' ⟨rfl,rfl⟩)
    go_ret2;refine⟨⟨fun t' ht'=>?_,fun _=>rfl⟩,H5.out⟩;exfalso;have hn:nxt t l[k]=none:=by rw[nxt,HB.out];rfl
    have:=run_none (l.drop (k+1)) H1.out hn;rw[←List.drop_eq_getElem_cons hlt,List.take_append_drop,ht']at this;cases this
   ·have HB:=hid hb
    clear hb
    go_wp2_with (go_at_call 36;refine(next_some _ _ _ _ _ _ t l[k] _ k (by omega) hws (by omega) H2.out H4.out HB.out).mono ?_;rintro e w' ⟨rfl,hP⟩;have HP:=hid hP;clear hP)
    go_roundw
    case rel=>exact⟨k+1,by omega,by go_num,pinv_next hlt H1.out H2.out H3.out H4.out H5.out HB.out HP.out⟩
    case measure=>simp[intOf];omega
  ·obtain rfl:k=l.length:=by omega
   have hrun:Hid (run t0 l=some t):=by have:=H1.out;rwa[List.take_length]at this
   by_cases hE:Ends t.st
   ·have HE:=hid hE
    clear hE
    go_wp2_with fail
    refine(value_some _ _ _ _ _ _ t _ l.length (by omega) H2.out H4.out HE.out).mono ?_;rintro e w' ⟨r,hr,rfl,hF⟩;have HR:=hid hr;have HF:=hid hF;clear hr hF;go_wp2;go_ret2;refine⟨⟨fun t' ht' _=>?_,fun h=>absurd HE.out (h t hrun.out)⟩,H5.out.trans HF.out⟩;rw[hrun.out]at ht';cases ht';exact⟨r,HR.out,rfl⟩
   ·have HE:=hid hE
    clear hE
    go_wp2_with fail
    refine(value_none _ _ _ _ _ _ t _ H4.out HE.out).mono ?_;rintro e w' ⟨rfl,rfl⟩;go_wp2;go_ret2;refine⟨⟨fun t' ht' h=>?_,fun _=>rfl⟩,H5.out⟩;rw[hrun.out]at ht';cases ht';exact absurd h HE.out
end Go.Proofs.YtmkkibaacclhnaaGreatDoor
