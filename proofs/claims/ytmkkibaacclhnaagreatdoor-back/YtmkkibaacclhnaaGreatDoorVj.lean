/-
  A step of the walk, the part named Vj. No theorem of the row.
-/
import Derived.Test.YtmkkibaacclhnaaGreatDoorProg
import Derived.Ground.NamesProg
import Derived.WalkKit
import Derived.WalkMore
import Derived.Below
import Derived.Shelf.Lay
import Derived.Shelf.Unicode.ValidAny
import Derived.Test.YtmkkibaacclhnaaGreatDoorYa
import Derived.Test.YtmkkibaacclhnaaGreatDoorWp
import Derived.Test.YtmkkibaacclhnaaGreatDoorWy
namespace Go.Proofs.YtmkkibaacclhnaaGreatDoor
open Go.RowKit Go.Shelf
set_option maxRecDepth 100000
set_option maxHeartbeats 16000000
shelf_lay Lays.n196 Nm 196 at Tryz as Tryz.laysValid
def Tabs (w:World):Prop:=Lib.Utf8Tabs (Tryz.laysValid_ren.g 3) (Tryz.laysValid_ren.g 4) w
theorem valid_lib (s:ByteArray) (w:World) (hs:s.size≤9223372036854775807) (hT:Tabs w):
 Calls Tryz.prog 123 #[.string s] w fun e w'=>e=.returned (.bool (Lib.validD s.data.toList))∧Below w.heap.size w w':=Any.utf8_ValidString Tryz.laysValid s w hs hT
theorem valid_any (l:List UInt8) (w:World) (hl:l.length≤100000000) (hT:Tabs w):
 Calls Tryz.prog 123 #[.string (ofL l)] w fun e w'=>e=.returned (.bool (isU l))∧Fr (fun _=>False) w w':=by
 refine(valid_lib (ofL l) w (by rw[ofL_size];omega) hT).mono ?_;rintro e w' ⟨rfl,hb⟩;refine⟨?_,.ofBelow hb⟩;rw[←valid_isU];rfl
theorem Tabs.fr {w w':World} {S:Nat→Prop} (h:Tabs w) (hF:Fr S w w') (h0:¬S 0) (h1:¬S 1):Tabs w':=by
 have b0:0<w.heap.size:=lt_of_cell (h.1 0 (by omega));have b1:1<w.heap.size:=lt_of_cell (h.2 0 (by omega)).1;refine⟨fun c hc=>?_,fun i hi=>⟨?_,?_⟩⟩
 ·exact(hF.cell (p:=⟨0,c,none⟩) b0 h0).trans (h.1 c hc)
 ·exact(hF.cell (p:=⟨1,2*i,none⟩) b1 h1).trans (h.2 i hi).1
 ·exact(hF.cell (p:=⟨1,2*i+1,none⟩) b1 h1).trans (h.2 i hi).2
theorem two_fr (w:World) (o1 o2:Obj):Fr (fun _=>False) w ((w.alloc o1).alloc o2):=((Fr.refl _ w).alloc _).alloc _
theorem two_keep (w:World) (v0 v1 v2 v3 v4 v5 v6 v7:Value) (w':World) (h:Fr (fun _=>False) ((w.alloc (.cells #[v0,v1,v2,v3] 29)).alloc (.cells #[v4,v5,v6,v7] 29)) w'):
 w'.cell? ⟨w.heap.size,0,none⟩=some v0∧w'.cell? ⟨w.heap.size,1,none⟩=some v1∧w'.cell? ⟨w.heap.size,2,none⟩=some v2∧w'.cell? ⟨w.heap.size,3,none⟩=some v3∧w'.cell? ⟨w.heap.size+1,0,none⟩=some v4∧w'.cell? ⟨w.heap.size+1,1,none⟩=some v5∧w'.cell? ⟨w.heap.size+1,2,none⟩=some v6∧w'.cell? ⟨w.heap.size+1,3,none⟩=some v7:=by
 have h0:=heap_alloc_new w (.cells #[v0,v1,v2,v3] 29);have h0':=((Fr.refl (fun _=>False) (w.alloc (.cells #[v0,v1,v2,v3] 29))).alloc (.cells #[v4,v5,v6,v7] 29)).heap h0 id;have h1:=heap_alloc_new (w.alloc (.cells #[v0,v1,v2,v3] 29)) (.cells #[v4,v5,v6,v7] 29);rw[show(w.alloc (.cells #[v0,v1,v2,v3] 29)).heap.size=w.heap.size+1 from by simp]at h1;have k0:=h.heap h0' id;have k1:=h.heap h1 id;exact⟨blk_cell k0 rfl,blk_cell k0 rfl,blk_cell k0 rfl,blk_cell k0 rfl,blk_cell k1 rfl,blk_cell k1 rfl,blk_cell k1 rfl,blk_cell k1 rfl⟩
theorem two_fr_set (w:World) (o1 o2:Obj) (j:Nat) (v:Value):Fr (fun _=>False) w (((w.alloc o1).alloc o2).setCell ⟨w.heap.size+1,j,none⟩ v):=
 (two_fr w o1 o2).setCell (p:=⟨w.heap.size+1,j,none⟩) (.inr (Nat.le_succ _)) v
theorem item_0 (n:Int) (b:Nat) (s:List UInt8) (w:World):Calls Tryz.prog 69 #[.agg #[.int .i64 0,.int .i64 n,.int .u64 (b:Int),.string (ofL s)]] w fun x w'=>x=.returned (.bool (goodI ⟨0,n,b,s⟩))∧Fr (fun _=>False) w w':=by
 obtain⟨U,hU⟩:∃U,goodI ⟨0,n,b,s⟩=U:=⟨_,rfl⟩;rw[hU];go_enter Tryz.func69,Tryz.ntmps69;go_wp2
 all_goals
  go_ret;refine⟨?_,?_⟩
  ·rw[←hU]
   clear hU;unfold goodI;cases s<;>simp_all[ofL_toList]<;>omega
  ·first|exact two_fr _ _ _|exact two_fr_set _ _ _ _ _
theorem item_1 (n:Int) (b:Nat) (s:List UInt8) (w:World):Calls Tryz.prog 69 #[.agg #[.int .i64 1,.int .i64 n,.int .u64 (b:Int),.string (ofL s)]] w fun x w'=>x=.returned (.bool (goodI ⟨1,n,b,s⟩))∧Fr (fun _=>False) w w':=by
 obtain⟨U,hU⟩:∃U,goodI ⟨1,n,b,s⟩=U:=⟨_,rfl⟩;rw[hU];go_enter Tryz.func69,Tryz.ntmps69;go_wp2
 all_goals
  go_ret;refine⟨?_,?_⟩
  ·rw[←hU]
   clear hU;unfold goodI;cases s<;>simp_all[ofL_toList]<;>omega
  ·first|exact two_fr _ _ _|exact two_fr_set _ _ _ _ _
theorem item_2 (n:Int) (b:Nat) (s:List UInt8) (w:World):Calls Tryz.prog 69 #[.agg #[.int .i64 2,.int .i64 n,.int .u64 (b:Int),.string (ofL s)]] w fun x w'=>x=.returned (.bool (goodI ⟨2,n,b,s⟩))∧Fr (fun _=>False) w w':=by
 obtain⟨U,hU⟩:∃U,goodI ⟨2,n,b,s⟩=U:=⟨_,rfl⟩;rw[hU];go_enter Tryz.func69,Tryz.ntmps69;go_wp2
 all_goals
  go_ret;refine⟨?_,?_⟩
  ·rw[←hU]
   clear hU;unfold goodI;cases s<;>simp_all[ofL_toList]<;>omega
  ·first|exact two_fr _ _ _|exact two_fr_set _ _ _ _ _
theorem item_5 (n:Int) (b:Nat) (s:List UInt8) (w:World):Calls Tryz.prog 69 #[.agg #[.int .i64 5,.int .i64 n,.int .u64 (b:Int),.string (ofL s)]] w fun x w'=>x=.returned (.bool (goodI ⟨5,n,b,s⟩))∧Fr (fun _=>False) w w':=by
 obtain⟨U,hU⟩:∃U,goodI ⟨5,n,b,s⟩=U:=⟨_,rfl⟩;rw[hU];go_enter Tryz.func69,Tryz.ntmps69;go_wp2
 all_goals
  go_ret;refine⟨?_,?_⟩
  ·rw[←hU]
   clear hU;unfold goodI;cases s<;>simp_all[ofL_toList]<;>omega
  ·first|exact two_fr _ _ _|exact two_fr_set _ _ _ _ _
theorem item_6 (n:Int) (b:Nat) (s:List UInt8) (w:World):Calls Tryz.prog 69 #[.agg #[.int .i64 6,.int .i64 n,.int .u64 (b:Int),.string (ofL s)]] w fun x w'=>x=.returned (.bool (goodI ⟨6,n,b,s⟩))∧Fr (fun _=>False) w w':=by
 obtain⟨U,hU⟩:∃U,goodI ⟨6,n,b,s⟩=U:=⟨_,rfl⟩;rw[hU];go_enter Tryz.func69,Tryz.ntmps69;go_wp2
 all_goals
  go_ret;refine⟨?_,?_⟩
  ·rw[←hU]
   clear hU;unfold goodI;cases s<;>simp_all[ofL_toList]<;>omega
  ·first|exact two_fr _ _ _|exact two_fr_set _ _ _ _ _
theorem item_no (k n:Int) (b:Nat) (s:List UInt8) (w:World) (hk:k<0∨6<k):Calls Tryz.prog 69 #[.agg #[.int .i64 k,.int .i64 n,.int .u64 (b:Int),.string (ofL s)]] w fun x w'=>x=.returned (.bool (goodI ⟨k,n,b,s⟩))∧Fr (fun _=>False) w w':=by
 obtain⟨U,hU⟩:∃U,goodI ⟨k,n,b,s⟩=U:=⟨_,rfl⟩;rw[hU];have hU2:=hid (show U=false by rw[←hU];unfold goodI;simp only;rw[if_neg (by omega),if_neg (by omega),if_neg (by omega),if_neg (by omega)]);have k0:(k==0)=false:=beq_eq_false_iff_ne.2 (by omega);have k1:(k==1)=false:=beq_eq_false_iff_ne.2 (by omega);have k2:(k==2)=false:=beq_eq_false_iff_ne.2 (by omega);have k3:(k==3)=false:=beq_eq_false_iff_ne.2 (by omega);have k4:(k==4)=false:=beq_eq_false_iff_ne.2 (by omega);have k5:(k==5)=false:=beq_eq_false_iff_ne.2 (by omega);have k6:(k==6)=false:=beq_eq_false_iff_ne.2 (by omega);clear hU hk;go_enter Tryz.func69,Tryz.ntmps69;go_wp2;go_ret;refine⟨?_,?_⟩
 ·rw[hU2.out];rfl
 ·first|exact two_fr _ _ _|exact two_fr_set _ _ _ _ _
theorem item_num_yes (n:Int) (b:Nat) (s:List UInt8) (w:World) (hb:b<18446744073709551616) (hf:b % 9223372036854775808<9218868437227405312):Calls Tryz.prog 69 #[.agg #[.int .i64 3,.int .i64 n,.int .u64 (b:Int),.string (ofL s)]] w fun x w'=>x=.returned (.bool (goodI ⟨3,n,b,s⟩))∧Fr (fun _=>False) w w':=by
 obtain⟨U,hU⟩:∃U,goodI ⟨3,n,b,s⟩=U:=⟨_,rfl⟩;rw[hU];have hU2:=hid (show U=(true&&(decide (n=0)&&s.isEmpty)) by rw[←hU];unfold goodI;simp[hf]);have HN:=hid (fun w=>is_yes b (b % 9223372036854775808) w (u64_andNot_sign b hb) (decide_eq_true (by omega)));clear hU hf hb;go_enter Tryz.func69,Tryz.ntmps69
 go_wp2_with (first|(go_at_call 38;refine Calls.mono (HN.out _) ?_;rintro e w2 ⟨rfl,rfl⟩)|fail)
 all_goals
  go_ret;refine⟨?_,?_⟩
  ·rw[hU2.out]
   clear hU2;cases s<;>simp_all[ofL_toList]<;>omega
  ·first|exact two_fr _ _ _|exact two_fr_set _ _ _ _ _
theorem item_num_no (n:Int) (b:Nat) (s:List UInt8) (w:World) (hb:b<18446744073709551616) (hf:¬b % 9223372036854775808<9218868437227405312):Calls Tryz.prog 69 #[.agg #[.int .i64 3,.int .i64 n,.int .u64 (b:Int),.string (ofL s)]] w fun x w'=>x=.returned (.bool (goodI ⟨3,n,b,s⟩))∧Fr (fun _=>False) w w':=by
 obtain⟨U,hU⟩:∃U,goodI ⟨3,n,b,s⟩=U:=⟨_,rfl⟩;rw[hU];have hU2:=hid (show U=(false&&(decide (n=0)&&s.isEmpty)) by rw[←hU];unfold goodI;simp[hf]);have HN:=hid (fun w=>is_no b (b % 9223372036854775808) w (u64_andNot_sign b hb) (decide_eq_false (by omega)));clear hU hf hb;go_enter Tryz.func69,Tryz.ntmps69
 go_wp2_with (first|(go_at_call 38;refine Calls.mono (HN.out _) ?_;rintro e w2 ⟨rfl,rfl⟩)|fail)
 all_goals
  go_ret;refine⟨?_,?_⟩
  ·rw[hU2.out]
   clear hU2;cases s<;>simp_all<;>omega
  ·first|exact two_fr _ _ _|exact two_fr_set _ _ _ _ _
theorem item_text (n:Int) (b:Nat) (s:List UInt8) (w:World) (hl:s.length≤100000000) (hT:Tabs w):Calls Tryz.prog 69 #[.agg #[.int .i64 4,.int .i64 n,.int .u64 (b:Int),.string (ofL s)]] w fun x w'=>x=.returned (.bool (goodI ⟨4,n,b,s⟩))∧Fr (fun _=>False) w w':=by
 obtain⟨U,hU⟩:∃U,goodI ⟨4,n,b,s⟩=U:=⟨_,rfl⟩;rw[hU];obtain⟨I,hI⟩:∃I,isU s=I:=⟨_,rfl⟩;have hU2:=hid (show U=(decide (n=0)&&decide (b=0)&&I) by rw[←hU,←hI];unfold goodI;simp);have HV:=hid (fun w' (hF:Fr (fun _=>False) w w')=>valid_any s w' hl (hT.fr hF id id));rw[hI]at HV;have HF:=hid (fun o1 o2 j v=>two_fr_set w o1 o2 j v);have HF0:=hid (fun o1 o2=>two_fr w o1 o2);clear hU hl hT hI;go_enter Tryz.func69,Tryz.ntmps69
 go_wp2_with fail
 refine Calls.mono (HV.out _ (HF0.out _ _)) ?_;rintro e w2 ⟨rfl,hf⟩;have HF2:=hid ((HF0.out _ _).trans hf);obtain⟨a0,a1,a2,a3,b0,b1,b2,b3⟩:=two_keep w _ _ _ _ _ _ _ _ w2 hf;clear hf;cases I
 ·go_wp2
  go_ret;refine⟨?_,HF2.out⟩;rw[hU2.out];simp
 ·go_wp2
  all_goals
   go_ret;refine⟨?_,HF2.out⟩;rw[hU2.out];clear hU2;simp_all
theorem isItem_any (x:Im) (w:World) (hl:x.s.length≤100000000) (hb:x.b<18446744073709551616) (hT:Tabs w):
 Calls Tryz.prog 69 #[.agg #[.int .i64 x.k,.int .i64 x.n,.int .u64 (x.b:Int),.string (ofL x.s)]] w fun e w'=>e=.returned (.bool (goodI x))∧Fr (fun _=>False) w w':=by
 obtain⟨k,n,b,s⟩:=x;simp only at hl hb ⊢;by_cases h0:k=0
 ·subst h0;exact item_0 n b s w
 by_cases h1:k=1
 ·subst h1;exact item_1 n b s w
 by_cases h2:k=2
 ·subst h2;exact item_2 n b s w
 by_cases h3:k=3
 ·subst h3
  by_cases hf:b % 9223372036854775808<9218868437227405312
  ·exact item_num_yes n b s w hb hf
  ·exact item_num_no n b s w hb hf
 by_cases h4:k=4
 ·subst h4;exact item_text n b s w hl hT
 by_cases h5:k=5
 ·subst h5;exact item_5 n b s w
 by_cases h6:k=6
 ·subst h6;exact item_6 n b s w
 exact item_no k n b s w (by omega)
theorem partsG_mono {sz sz':List Im→Nat} (h:∀l,sz l≠0→sz' l=sz l) (obj:Bool) (c:Nat) (l:List Im) (m:Nat) (hm:partsG sz obj c l=some m):partsG sz' obj c l=some m:=by
 induction c generalizing l m with
 |zero=>exact hm
 |succ c ih=>
  unfold partsG at hm ⊢;cases obj with
  |true=>
   rw[if_pos rfl]at hm ⊢;cases l with
   |nil=>exact hm
   |cons k r=>
    simp only at hm ⊢;by_cases hk:k.k=4∧goodI k=true
    ·rw[if_pos hk]at hm ⊢
     by_cases h0:sz r=0
     ·rw[if_pos h0]at hm;cases hm
     ·rw[if_neg h0]at hm
      rw[h r h0,if_neg h0];cases hp:partsG sz true c (r.drop (sz r))with
      |none=>rw[hp]at hm;cases hm
      |some q=>
       rw[hp]at hm;rw[ih _ _ hp];exact hm
    ·rw[if_neg hk]at hm;cases hm
  |false=>
   rw[if_neg (by simp)]at hm ⊢;by_cases h0:sz l=0
   ·rw[if_pos h0]at hm;cases hm
   ·rw[if_neg h0]at hm
    rw[h l h0,if_neg h0];cases hp:partsG sz false c (l.drop (sz l))with
    |none=>rw[hp]at hm;cases hm
    |some q=>
     rw[hp]at hm;rw[ih _ _ hp];exact hm
theorem sizeD_up (d:Nat) (l:List Im) (h:sizeD d l≠0):sizeD (d+1) l=sizeD d l:=by
 induction d generalizing l with
 |zero=>
  cases l with
  |nil=>exact absurd rfl h
  |cons x r=>
   simp only[sizeD]at h ⊢;by_cases hg:goodI x=true∧x.k<5
   ·rw[if_pos hg,if_pos hg.1,if_pos hg.2]
   ·rw[if_neg hg]at h;exact absurd rfl h
 |succ d ih=>
  cases l with
  |nil=>exact absurd rfl h
  |cons x r=>
   rw[sizeD]at h ⊢;rw[sizeD];by_cases hg:goodI x=true
   ·rw[if_pos hg]at h ⊢
    rw[if_pos hg];by_cases hk:x.k<5
    ·rw[if_pos hk,if_pos hk]
    ·rw[if_neg hk]at h ⊢
     rw[if_neg hk];cases hp:partsG (sizeD d) (decide (x.k=6)) x.n.toNat r with
     |none=>rw[hp]at h;exact absurd rfl h
     |some m=>rw[partsG_mono ih _ _ _ _ hp]
   ·rw[if_neg hg]at h;exact absurd rfl h
theorem sizeD_ups (d e:Nat) (l:List Im) (h:sizeD d l≠0) (he:d≤e):sizeD e l=sizeD d l:=by
 obtain⟨k,rfl⟩:=Nat.le.dest he
 induction k with
 |zero=>rfl
 |succ k ih=>
  have:=ih (by omega);rw[←this]at h ⊢;exact sizeD_up (d+k) l h
def BhOk (beh:List Nat) (its:List Im) (a b:Nat):Prop:=∀q,a≤q→q<b→beh[q]? =some (q+sizeD 1000 (its.drop q))
theorem BhOk.nil (beh:List Nat) (its:List Im) (a:Nat):BhOk beh its a a:=fun q h1 h2=>absurd h2 (by omega)
theorem BhOk.join {beh beh':List Nat} {its:List Im} {a b c:Nat} (h:BhOk beh its a b) (k:BhOk beh' its b c) (hs:∀q,q<b→beh'[q]? =beh[q]?):BhOk beh' its a c:=by
 intro q h1 h2;by_cases hq:q<b
 ·rw[hs q hq];exact h q h1 hq
 ·exact k q (by omega) h2
theorem BhOk.set {beh:List Nat} {its:List Im} {a d:Nat} (h:BhOk beh its (a+1) (a+sizeD d (its.drop a))) (hz:sizeD d (its.drop a)≠0) (hd:d≤1000) (hl:a<beh.length):BhOk (beh.set a (a+sizeD d (its.drop a))) its a (a+sizeD d (its.drop a)):=by
 intro q h1 h2;by_cases hq:q=a
 ·subst hq
  rw[List.getElem?_set_self (by omega),sizeD_ups d 1000 _ hz hd]
 ·rw[List.getElem?_set_ne (by omega)]
  exact h q (by omega) h2
structure OL (w:World) (o g ig cap:Nat) (its:List Im) (beh:List Nat) (nx:Nat):Prop where
 blk:w.heap[o]? =some (.cells #[.slice (some ⟨ig,0,none⟩) its.length cap,.slice (some ⟨g,0,none⟩) its.length its.length,.int .i64 (nx:Int)] 61 (0,0))
 row:w.ownsRow 0 3 1 (.slice (some ⟨g,0,none⟩) its.length its.length) its.length (beh.map encN)
 items:ItAt w (.slice (some ⟨ig,0,none⟩) its.length cap) its
 og:o≠g
 io:ig≠o
 ig:ig≠g
 tabs:Tabs w
 o2:2≤o
 g2:2≤g
 nxle:nx≤its.length
theorem OL.len {w:World} {o g ig cap:Nat} {its:List Im} {beh:List Nat} {nx:Nat} (h:OL w o g ig cap its beh nx):beh.length=its.length:=by
 have:=h.row.1;simpa using this
theorem OL.fr {w w':World} {o g ig cap:Nat} {its:List Im} {beh:List Nat} {nx:Nat} (h:OL w o g ig cap its beh nx) (hf:Fr (fun _=>False) w w'):OL w' o g ig cap its beh nx:=
 ⟨hf.heap h.blk id,rowFr h.row hf (fun _ _=>id),h.items.fr hf (fun _ _=>id),h.og,h.io,h.ig,h.tabs.fr hf id id,h.o2,h.g2,h.nxle⟩
theorem OL.cells {w:World} {o g ig cap:Nat} {its:List Im} {beh:List Nat} {nx:Nat} (h:OL w o g ig cap its beh nx) {p:Nat} {x:Im} (hx:its[p]? =some x):
 w.cell? ⟨ig,p*4,none⟩=some (.int .i64 x.k)∧w.cell? ⟨ig,p*4+1,none⟩=some (.int .i64 x.n)∧w.cell? ⟨ig,p*4+2,none⟩=some (.int .u64 (x.b:Int))∧w.cell? ⟨ig,p*4+3,none⟩=some (.string (ofL x.s)):=
 ⟨rowCell h.items (p*4) _ (imsV_get its p 0 x hx (by omega)),rowCell h.items (p*4+1) _ (imsV_get its p 1 x hx (by omega)),rowCell h.items (p*4+2) _ (imsV_get its p 2 x hx (by omega)),rowCell h.items (p*4+3) _ (imsV_get its p 3 x hx (by omega))⟩
theorem OL.step {w:World} {o g ig cap:Nat} {its:List Im} {beh:List Nat} {nx:Nat} (h:OL w o g ig cap its beh nx) (m:Nat) (hm:m≤its.length):OL (w.setCell ⟨o,2,none⟩ (.int .i64 (m:Int))) o g ig cap its beh m:=by
 have hF:Fr (fun i=>i=o) w (w.setCell ⟨o,2,none⟩ (.int .i64 (m:Int))):=(Fr.refl (fun i=>i=o) w).setCell (p:=⟨o,2,none⟩) (.inl rfl) _;exact⟨heap_setCell_same w o 2 _ 61 _ h.blk,rowFr h.row hF (by rintro i hi rfl;exact h.og (by simpa[Value.ownBlock]using hi.symm)),h.items.fr hF (by rintro i hi rfl;exact h.io (by simpa[Value.ownBlock]using hi)),h.og,h.io,h.ig,h.tabs.fr hF (by have:=h.o2;omega) (by have:=h.o2;omega),h.o2,h.g2,hm⟩
theorem OL.note {w:World} {o g ig cap:Nat} {its:List Im} {beh:List Nat} {nx:Nat} (h:OL w o g ig cap its beh nx) (p m:Nat):OL (w.setCell ⟨g,p,none⟩ (.int .i64 (m:Int))) o g ig cap its (beh.set p m) nx:=by
 have hF:Fr (fun i=>i=g) w (w.setCell ⟨g,p,none⟩ (.int .i64 (m:Int))):=(Fr.refl (fun i=>i=g) w).setCell (p:=⟨g,p,none⟩) (.inl rfl) _;refine⟨hF.heap h.blk h.og,?_,h.items.fr hF (by rintro i hi rfl;exact h.ig (by simpa[Value.ownBlock]using hi)),h.og,h.io,h.ig,h.tabs.fr hF (by have:=h.g2;omega) (by have:=h.g2;omega),h.o2,h.g2,h.nxle⟩;have:=rowSet h.row p (encN m);rw[←List.map_set]at this;exact this
structure OPost (w w':World) (o g ig cap:Nat) (its:List Im) (beh:List Nat) (nx:Nat) (beh':List Nat) (nx':Nat):Prop where
 fr:Fr (fun i=>i=o∨i=g) w w'
 ol:OL w' o g ig cap its beh' nx'
 low:∀q,q<nx→beh'[q]? =beh[q]?
 le:nx≤nx'
theorem OPost.trans {w w' w2:World} {o g ig cap:Nat} {its:List Im} {beh beh' beh2:List Nat} {nx nx' nx2:Nat} (h:OPost w w' o g ig cap its beh nx beh' nx') (k:OPost w' w2 o g ig cap its beh' nx' beh2 nx2):OPost w w2 o g ig cap its beh nx beh2 nx2:=
 ⟨h.fr.trans k.fr,k.ol,fun q hq=>(k.low q (Nat.lt_of_lt_of_le hq h.le)).trans (h.low q hq),Nat.le_trans h.le k.le⟩
def VDone (w:World) (o g ig cap:Nat) (its:List Im) (beh:List Nat) (nx:Nat) (r:Option Nat) (e:Ending) (w':World):Prop:=
 match r with
 |none=>e=.returned (.bool false)∧∃beh' nx',OPost w w' o g ig cap its beh nx beh' nx'
 |some m=>e=.returned (.bool true)∧∃beh',OPost w w' o g ig cap its beh nx beh' (nx+m)∧BhOk beh' its nx (nx+m)
def szO (n:Nat):Option Nat:=if n=0 then none else some n
def ValOk (d:Nat):Prop:=∀(w:World) (o g ig cap:Nat) (its:List Im) (beh:List Nat) (nx:Nat),OL w o g ig cap its beh nx→its.length≤10000000→(∀x,x∈its→x.s.length≤100000000)→Bok its→d≤1000→
 Calls Tryz.prog 41 #[.pointer (some ⟨o,0,none⟩),.int .i64 (d:Int)] w (VDone w o g ig cap its beh nx (szO (sizeD d (its.drop nx))))
theorem OL.three {w:World} {o g ig cap:Nat} {its:List Im} {beh:List Nat} {nx:Nat} (h:OL w o g ig cap its beh nx):
 w.cell? ⟨o,0,none⟩=some (.slice (some ⟨ig,0,none⟩) its.length cap)∧w.cell? ⟨o,1,none⟩=some (.slice (some ⟨g,0,none⟩) its.length its.length)∧w.cell? ⟨o,2,none⟩=some (.int .i64 (nx:Int))∧(∀j,w.frozen? ⟨o,j,none⟩=false):=
 ⟨blk_cell h.blk rfl,blk_cell h.blk rfl,blk_cell h.blk rfl,fun _=>blk_free h.blk⟩
theorem OPost.refl {w:World} {o g ig cap:Nat} {its:List Im} {beh:List Nat} {nx:Nat} (h:OL w o g ig cap its beh nx):OPost w w o g ig cap its beh nx beh nx:=⟨Fr.refl _ _,h,fun _ _=>rfl,Nat.le_refl _⟩
theorem OPost.same {w w':World} {o g ig cap:Nat} {its:List Im} {beh:List Nat} {nx:Nat} (h:OL w o g ig cap its beh nx) (hf:Fr (fun _=>False) w w'):OPost w w' o g ig cap its beh nx beh nx:=⟨hf.mono (fun _=>False.elim),h.fr hf,fun _ _=>rfl,Nat.le_refl _⟩
theorem OPost.stepped {w w':World} {o g ig cap:Nat} {its:List Im} {beh:List Nat} {nx:Nat} (h:OL w o g ig cap its beh nx) (hf:Fr (fun _=>False) w w') (hn:nx<its.length):OPost w (w'.setCell ⟨o,2,none⟩ (.int .i64 ((nx:Int)+1))) o g ig cap its beh nx beh (nx+1):=by
 have h2:=(h.fr hf).step (nx+1) (by omega);rw[show(((nx+1:Nat)):Int)=(nx:Int)+1 by omega]at h2;exact⟨(hf.mono (fun _=>False.elim)).setCell (p:=⟨o,2,none⟩) (.inl (.inl rfl)) _,h2,fun _ _=>rfl,by omega⟩
theorem OPost.noted {w w':World} {o g ig cap:Nat} {its:List Im} {beh beh':List Nat} {nx nx':Nat} (h:OPost w w' o g ig cap its beh nx beh' nx') (p m:Nat) (hp:nx≤p):OPost w (w'.setCell ⟨g,p,none⟩ (.int .i64 (m:Int))) o g ig cap its beh nx (beh'.set p m) nx':=
 ⟨h.fr.setCell (p:=⟨g,p,none⟩) (.inl (.inr rfl)) _,h.ol.note p m,fun q hq=>by rw[List.getElem?_set_ne (by omega)];exact h.low q hq,h.le⟩
theorem val_end (d:Nat) (w:World) (o g ig cap:Nat) (its:List Im) (beh:List Nat) (h:OL w o g ig cap its beh its.length):
 Calls Tryz.prog 41 #[.pointer (some ⟨o,0,none⟩),.int .i64 (d:Int)] w (VDone w o g ig cap its beh its.length none):=by
 obtain⟨c0,c1,c2,cf⟩:=h.three;have HP:=hid (OPost.refl h);clear h;generalize its.length=n at*;go_enter Tryz.func41,Tryz.ntmps41;go_wp2;go_ret;exact⟨rfl,_,_,HP.out⟩
theorem val_bad (d:Nat) (w:World) (o g ig cap:Nat) (its:List Im) (beh:List Nat) (nx:Nat) (x:Im) (h:OL w o g ig cap its beh nx) (hx:its[nx]? =some x) (_hl:its.length≤10000000) (hs:x.s.length≤100000000) (hb:x.b<18446744073709551616) (hg:goodI x=false):
 Calls Tryz.prog 41 #[.pointer (some ⟨o,0,none⟩),.int .i64 (d:Int)] w (VDone w o g ig cap its beh nx none):=by
 obtain⟨c0,c1,c2,cf⟩:=h.three;obtain⟨x0,x1,x2,x3⟩:=h.cells hx;have HI:=hid (fun (wx:World) (hT:Tabs wx)=>isItem_any x wx hs hb hT);rw[hg]at HI;have HT:=hid h.tabs;have HS:=hid (fun wx hf=>OPost.same (w':=wx) h hf);have hnx:nx<its.length:=(List.getElem?_eq_some_iff.1 hx).1;have hne:((nx:Int)==(its.length:Int))=false:=beq_eq_false_iff_ne.2 (by omega);obtain⟨k,n,b,s⟩:=x;simp only at x0 x1 x2 x3 HI;clear h hx hs hb hg;generalize its.length=L at*;go_enter Tryz.func41,Tryz.ntmps41
 go_wp2_with (first|(go_at_call 69;refine Calls.mono (HI.out _ HT.out) ?_;rintro e w2 ⟨rfl,hf⟩;have HF:=hid hf;clear hf)|fail)
 go_ret;exact⟨rfl,_,_,HS.out _ HF.out⟩
theorem OPost.drew {w w':World} {o g ig cap:Nat} {its:List Im} {beh beh':List Nat} {nx nx':Nat} (h:OPost w w' o g ig cap its beh nx beh' nx'):OPost w w'.drew o g ig cap its beh nx beh' nx':=
 ⟨h.fr.drew,h.ol.fr (Fr.refl (fun _=>False) w').drew,h.low,h.le⟩
theorem goodI_k {x:Im} (h:goodI x=true):0≤x.k∧x.k≤6:=by
 unfold goodI at h;by_cases h0:x.k=0∨x.k=1∨x.k=2
 ·omega
 ·rw[if_neg h0]at h
  by_cases h1:x.k=3
  ·omega
  ·rw[if_neg h1]at h
   by_cases h2:x.k=4
   ·omega
   ·rw[if_neg h2]at h
    by_cases h3:x.k=5∨x.k=6
    ·omega
    ·rw[if_neg h3]at h;cases h
theorem OL.beh {w:World} {o g ig cap:Nat} {its:List Im} {beh:List Nat} {nx p:Nat} (h:OL w o g ig cap its beh nx) (hp:p<its.length):∃m:Nat,w.cell? ⟨g,p,none⟩=some (.int .i64 (m:Int)):=by
 have hl:=h.len;exact⟨beh[p]'(by omega),rowCell h.row p _ (by rw[List.getElem?_map,List.getElem?_eq_getElem (by omega)];rfl)⟩
theorem OL.all {w:World} {o g ig cap:Nat} {its:List Im} {beh:List Nat} {nx p:Nat} {x:Im} (h:OL w o g ig cap its beh nx) (hx:its[p]? =some x):
 (w.cell? ⟨o,0,none⟩=some (.slice (some ⟨ig,0,none⟩) its.length cap)∧w.cell? ⟨o,1,none⟩=some (.slice (some ⟨g,0,none⟩) its.length its.length)∧w.cell? ⟨o,2,none⟩=some (.int .i64 (nx:Int))∧(∀j,w.frozen? ⟨o,j,none⟩=false))∧
 (w.cell? ⟨ig,p*4,none⟩=some (.int .i64 x.k)∧w.cell? ⟨ig,p*4+1,none⟩=some (.int .i64 x.n)∧w.cell? ⟨ig,p*4+2,none⟩=some (.int .u64 (x.b:Int))∧w.cell? ⟨ig,p*4+3,none⟩=some (.string (ofL x.s)))∧(∀j,w.frozen? ⟨g,j,none⟩=false)∧(∃m:Nat,w.cell? ⟨g,p,none⟩=some (.int .i64 (m:Int))):=
 ⟨h.three,h.cells hx,fun j=>rowFree h.row j,h.beh (List.getElem?_eq_some_iff.1 hx).1⟩
theorem val_leaf (d:Nat) (w:World) (o g ig cap:Nat) (its:List Im) (beh:List Nat) (nx:Nat) (x:Im) (h:OL w o g ig cap its beh nx) (hx:its[nx]? =some x) (hl:its.length≤10000000) (hs:x.s.length≤100000000) (hb:x.b<18446744073709551616) (hg:goodI x=true) (hk:x.k<5)
 (hsz:sizeD 0 (its.drop nx)=1):
 Calls Tryz.prog 41 #[.pointer (some ⟨o,0,none⟩),.int .i64 (d:Int)] w (VDone w o g ig cap its beh nx (some 1)):=by
 obtain⟨⟨c0,c1,c2,cf⟩,⟨x0,x1,x2,x3⟩,-⟩:=h.all hx;have HI:=hid (fun (wx:World) (hT:Tabs wx)=>isItem_any x wx hs hb hT);rw[hg]at HI;have HT:=hid h.tabs;have hnx:nx<its.length:=(List.getElem?_eq_some_iff.1 hx).1;have HA:=hid (fun wx hf=>((h.fr (w':=wx) hf).all hx));have HP:=hid (fun wx hf=>OPost.stepped (w':=wx) h hf hnx)
 have HEND:=hid (fun (w3:World) (hp:OPost w w3 o g ig cap its beh nx beh (nx+1))=>(show VDone w o g ig cap its beh nx (some 1) (.returned (.bool true)) (w3.setCell ⟨g,nx,none⟩ (.int .i64 ((nx:Int)+1)))from by
  refine⟨rfl,_,hp.noted nx (nx+1) (Nat.le_refl _),?_⟩;have hlen:=hp.ol.len;have:=BhOk.set (d:=0) (beh:=beh) (its:=its) (a:=nx) (by rw[hsz];exact BhOk.nil _ _ _) (by rw[hsz];omega) (by omega) (by omega);rw[hsz]at this
  exact this))
 have hne:((nx:Int)==(its.length:Int))=false:=beq_eq_false_iff_ne.2 (by omega);have hk2:=goodI_k hg;have hio:=h.io;have hig:=h.ig;have hog:=h.og;obtain⟨k,n,b,s⟩:=x;simp only at x0 x1 x2 x3 HI hk hk2 HA;have k5:(k==5)=false:=beq_eq_false_iff_ne.2 (by omega);have k6:(k==6)=false:=beq_eq_false_iff_ne.2 (by omega);clear h hx hs hb hg hsz hk2;generalize its.length=L at*;go_enter Tryz.func41,Tryz.ntmps41
 go_wp2_with fail
 refine Calls.mono (HI.out _ HT.out) ?_;rintro e w2 ⟨rfl,hf⟩;obtain⟨⟨d0,d1,d2,df⟩,⟨y0,y1,y2,y3⟩,fg,m1,gy⟩:=HA.out w2 hf;have HP2:=hid (HP.out w2 hf);clear hf HA HP c0 c1 c2 cf x0 x1 x2 x3;go_wp2;go_region;go_wp2;go_ret;exact HEND.out _ HP2.out.drew
theorem val_deep (w:World) (o g ig cap:Nat) (its:List Im) (beh:List Nat) (nx:Nat) (x:Im) (h:OL w o g ig cap its beh nx) (hx:its[nx]? =some x) (hl:its.length≤10000000) (hs:x.s.length≤100000000) (hb:x.b<18446744073709551616) (hg:goodI x=true) (hk:¬x.k<5):
 Calls Tryz.prog 41 #[.pointer (some ⟨o,0,none⟩),.int .i64 0] w (VDone w o g ig cap its beh nx none):=by
 obtain⟨⟨c0,c1,c2,cf⟩,⟨x0,x1,x2,x3⟩,-⟩:=h.all hx;have HI:=hid (fun (wx:World) (hT:Tabs wx)=>isItem_any x wx hs hb hT);rw[hg]at HI;have HT:=hid h.tabs;have hnx:nx<its.length:=(List.getElem?_eq_some_iff.1 hx).1;have HA:=hid (fun wx hf=>((h.fr (w':=wx) hf).all hx));have HP:=hid (fun wx hf=>OPost.stepped (w':=wx) h hf hnx);have hne:((nx:Int)==(its.length:Int))=false:=beq_eq_false_iff_ne.2 (by omega);have hk2:=goodI_k hg;have hio:=h.io;have hig:=h.ig;have hog:=h.og;obtain⟨k,n,b,s⟩:=x;simp only at x0 x1 x2 x3 HI hk hk2 HA;have k56:k=5∨k=6:=by omega
 clear h hx hs hb hg hk2 hk;generalize its.length=L at*;rcases k56 with rfl|rfl
 all_goals
  go_enter Tryz.func41,Tryz.ntmps41
  go_wp2_with fail
  refine Calls.mono (HI.out _ HT.out) ?_;rintro e w2 ⟨rfl,hf⟩;obtain⟨⟨d0,d1,d2,df⟩,⟨y0,y1,y2,y3⟩,fg,m1,gy⟩:=HA.out w2 hf;have HP2:=hid (HP.out w2 hf);clear hf HA HP c0 c1 c2 cf x0 x1 x2 x3;go_wp2;go_ret;exact⟨rfl,_,_,HP2.out⟩
def InOk (d:Nat):Prop:=∀(w:World) (o g ig cap:Nat) (its:List Im) (beh:List Nat) (nx N b:Nat) (k:Int) (s:List UInt8),OL w o g ig cap its beh nx→its.length≤10000000→(∀x,x∈its→x.s.length≤100000000)→Bok its→d≤1000→k=5∨k=6→
 Calls Tryz.prog 70 #[.pointer (some ⟨o,0,none⟩),.agg #[.int .i64 k,.int .i64 (N:Int),.int .u64 (b:Int),.string (ofL s)],.int .i64 (d:Int)] w (VDone w o g ig cap its beh nx (partsG (sizeD d) (decide (k=6)) N (its.drop nx)))
theorem val_nest_no (d:Nat) (IH:InOk d) (w:World) (o g ig cap:Nat) (its:List Im) (beh:List Nat) (nx N b:Nat) (k:Int) (s:List UInt8) (h:OL w o g ig cap its beh nx) (hx:its[nx]? =some ⟨k,(N:Int),b,s⟩) (hl:its.length≤10000000) (hs:∀x,x∈its→x.s.length≤100000000) (hb:Bok its) (hd:d+1≤1000) (hg:goodI ⟨k,(N:Int),b,s⟩=true) (hk:k=5∨k=6)
 (hsz:partsG (sizeD d) (decide (k=6)) N (its.drop (nx+1))=none):
 Calls Tryz.prog 41 #[.pointer (some ⟨o,0,none⟩),.int .i64 ((d:Int)+1)] w (VDone w o g ig cap its beh nx none):=by
 obtain⟨⟨c0,c1,c2,cf⟩,⟨x0,x1,x2,x3⟩,-⟩:=h.all hx;have hmem:(⟨k,(N:Int),b,s⟩:Im)∈its:=List.mem_of_getElem? hx;have HI:=hid (fun (wx:World) (hT:Tabs wx)=>isItem_any ⟨k,(N:Int),b,s⟩ wx (hs _ hmem) (hb _ hmem) hT);rw[hg]at HI;have HT:=hid h.tabs;have hnx:nx<its.length:=(List.getElem?_eq_some_iff.1 hx).1;have HA:=hid (fun wx hf=>((h.fr (w':=wx) hf).all hx));have HP:=hid (fun wx hf=>OPost.stepped (w':=wx) h hf hnx);have hne:((nx:Int)==(its.length:Int))=false:=beq_eq_false_iff_ne.2 (by omega);have hio:=h.io;have hig:=h.ig;have hog:=h.og;have HN:=hid (fun (wx:World) (hx:OL wx o g ig cap its beh (nx+1))=>IH wx o g ig cap its beh (nx+1) N b k s hx hl hs hb (by omega) hk);rw[hsz]at HN;simp only at x0 x1 x2 x3 HI HA;have hd0:((d:Int)+1==0)=false:=beq_eq_false_iff_ne.2 (by omega);clear h hx hs hb hg hsz hmem IH;generalize its.length=L at*;rcases hk with rfl|rfl
 all_goals
  go_enter Tryz.func41,Tryz.ntmps41
  go_wp2_with fail
  refine Calls.mono (HI.out _ HT.out) ?_;rintro e w2 ⟨rfl,hf⟩;obtain⟨⟨d0,d1,d2,df⟩,⟨y0,y1,y2,y3⟩,fg,m1,gy⟩:=HA.out w2 hf;have HP2:=hid (HP.out w2 hf);clear hf HA HP c0 c1 c2 cf x0 x1 x2 x3
  go_wp2_with fail
  refine Calls.mono (HN.out _ HP2.out.ol) ?_;rintro e w3 ⟨rfl,b3,n3,hp3⟩;have HP3:=hid hp3;clear hp3;go_wp2;go_ret;exact⟨rfl,_,_,HP2.out.trans HP3.out⟩
theorem val_nest_yes (d:Nat) (IH:InOk d) (w:World) (o g ig cap:Nat) (its:List Im) (beh:List Nat) (nx N b m:Nat) (k:Int) (s:List UInt8) (h:OL w o g ig cap its beh nx) (hx:its[nx]? =some ⟨k,(N:Int),b,s⟩) (hl:its.length≤10000000) (hs:∀x,x∈its→x.s.length≤100000000) (hb:Bok its) (hd:d+1≤1000) (hg:goodI ⟨k,(N:Int),b,s⟩=true) (hk:k=5∨k=6)
 (hsz:partsG (sizeD d) (decide (k=6)) N (its.drop (nx+1))=some m) (hsz2:sizeD (d+1) (its.drop nx)=m+1):
 Calls Tryz.prog 41 #[.pointer (some ⟨o,0,none⟩),.int .i64 ((d:Int)+1)] w (VDone w o g ig cap its beh nx (some (m+1))):=by
 obtain⟨⟨c0,c1,c2,cf⟩,⟨x0,x1,x2,x3⟩,-⟩:=h.all hx;have hmem:(⟨k,(N:Int),b,s⟩:Im)∈its:=List.mem_of_getElem? hx;have HI:=hid (fun (wx:World) (hT:Tabs wx)=>isItem_any ⟨k,(N:Int),b,s⟩ wx (hs _ hmem) (hb _ hmem) hT);rw[hg]at HI;have HT:=hid h.tabs;have hnx:nx<its.length:=(List.getElem?_eq_some_iff.1 hx).1;have HA:=hid (fun wx hf=>((h.fr (w':=wx) hf).all hx));have HA3:=hid (fun wx beh' nx' (hy:OL wx o g ig cap its beh' nx')=>hy.all hx);have HP:=hid (fun wx hf=>OPost.stepped (w':=wx) h hf hnx);have hne:((nx:Int)==(its.length:Int))=false:=beq_eq_false_iff_ne.2 (by omega);have hio:=h.io;have hig:=h.ig;have hog:=h.og;have HN:=hid (fun (wx:World) (hx:OL wx o g ig cap its beh (nx+1))=>IH wx o g ig cap its beh (nx+1) N b k s hx hl hs hb (by omega) hk);rw[hsz]at HN
 have HEND:=hid (fun (w3:World) (b3:List Nat) (hp:OPost w w3 o g ig cap its beh nx b3 (nx+1+m)) (hbk:BhOk b3 its (nx+1) (nx+1+m))=>(show VDone w o g ig cap its beh nx (some (m+1)) (.returned (.bool true)) (w3.setCell ⟨g,nx,none⟩ (.int .i64 ((nx+1+m:Nat):Int)))from by
  have e1:nx+1+m=nx+(m+1):=by omega
  rw[e1]at hp hbk ⊢;refine⟨rfl,_,hp.noted nx (nx+(m+1)) (Nat.le_refl _),?_⟩;have hlen:=hp.ol.len;have:=BhOk.set (d:=d+1) (beh:=b3) (its:=its) (a:=nx) (by rw[hsz2];exact hbk) (by rw[hsz2];omega) (by omega) (by omega);rw[hsz2]at this
  exact this))
 simp only at x0 x1 x2 x3 HI HA HA3;have hd0:((d:Int)+1==0)=false:=beq_eq_false_iff_ne.2 (by omega);clear h hx hs hb hg hsz hmem IH hsz2;generalize its.length=L at*;rcases hk with rfl|rfl
 all_goals
  go_enter Tryz.func41,Tryz.ntmps41
  go_wp2_with fail
  refine Calls.mono (HI.out _ HT.out) ?_;rintro e w2 ⟨rfl,hf⟩;obtain⟨⟨d0,d1,d2,df⟩,⟨y0,y1,y2,y3⟩,fg,m1,gy⟩:=HA.out w2 hf;have HP2:=hid (HP.out w2 hf);clear hf HA HP c0 c1 c2 cf x0 x1 x2 x3
  go_wp2_with fail
  refine Calls.mono (HN.out _ HP2.out.ol) ?_;rintro e w3 ⟨rfl,b3,hp3,hb3⟩;have HP3:=hid (HP2.out.trans hp3);have HB3:=hid hb3;obtain⟨⟨e0,e1,e2,ef⟩,⟨z0,z1,z2,z3⟩,gg,m2,gz⟩:=HA3.out _ _ _ hp3.ol;clear hp3 hb3 HP2 d0 d1 d2 df y0 y1 y2 y3 fg gy;generalize nx+1+m=nz at*;go_wp2;go_region;go_wp2;go_ret;exact HEND.out _ _ HP3.out.drew HB3.out
end Go.Proofs.YtmkkibaacclhnaaGreatDoor
