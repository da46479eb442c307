/-
  A step of the walk, the part named Pd. No theorem of the row.
-/
import Derived.Test.YtmkkibaacclhnaaGreatDoorTri
import Derived.Test.YtmkkibaacclhnaaGreatDoorPa
import Derived.Lib.BitFns
namespace Go.Proofs.YtmkkibaacclhnaaGreatDoor
open Go.RowKit
set_option maxRecDepth 100000
set_option maxHeartbeats 16000000
theorem dec_slice (m:Nat) (h:m<10):(ByteArray.mk #[48,49,50,51,52,53,54,55,56,57]).extract m (m+1)=ofL [UInt8.ofNat (48+m)]:=by
 have:m=0∨m=1∨m=2∨m=3∨m=4∨m=5∨m=6∨m=7∨m=8∨m=9:=by omega
 rcases this with rfl|rfl|rfl|rfl|rfl|rfl|rfl|rfl|rfl|rfl<;>rfl
def IsNear (N:Nat) (x:Int) (r:Nat):Prop:=(r<9218868437227405312∧RndAt N x r)∨(r=9218868437227405312∧mid 9218868437227405311*p10 (-x).toNat≤2*(N*pP x))
theorem IsNear.uniq {N r s:Nat} {x:Int} (h1:IsNear N x r) (h2:IsNear N x s):r=s:=by
 rcases h1 with⟨a1,b1⟩|⟨a1,b1⟩<;>rcases h2 with⟨a2,b2⟩|⟨a2,b2⟩
 ·exact Rnd.uniq (p10_pos _) b1 b2
 ·have:=rnd_small (p10_pos _) b1 a1;omega
 ·have:=rnd_small (p10_pos _) b2 a2;omega
 ·omega
theorem big_of {N j:Nat} {x:Int} (hN:p10 j≤N) (hx:309≤(j:Int)+x):mid 9218868437227405311*p10 (-x).toNat≤2*(N*pP x):=by
 unfold pP
 have h1:p10 309*p10 (-x).toNat≤N*p10 x.toNat:=by
  rw[←p10_add];refine Nat.le_trans (p10_le _ (j+x.toNat) (by omega)) ?_;rw[p10_add];exact Nat.mul_le_mul_right _ hN
 have h2:=Nat.mul_le_mul_right (p2 1074) h1;have h3:=Nat.mul_le_mul_right (p10 (-x).toNat) (Nat.le_of_lt big_1);generalize p2 1074=s at*;have e1:2*(p10 309*s)*p10 (-x).toNat=2*(p10 309*p10 (-x).toNat*s):=by simp only[Nat.mul_left_comm,Nat.mul_comm]
 have e2:N*(p10 x.toNat*s)=N*p10 x.toNat*s:=(Nat.mul_assoc ..).symm;rw[e2];rw[e1]at h3;omega
theorem IsNear.big {N j:Nat} {x:Int} (hN:p10 j≤N) (hx:309≤(j:Int)+x):IsNear N x 9218868437227405312:=.inr ⟨rfl,big_of hN hx⟩
theorem IsNear.small {N j:Nat} {x:Int} (hN:N<p10 j) (hx:(j:Int)+x≤ -324):IsNear N x 0:=by
 refine .inl ⟨by omega,.inl rfl,.inl ?_⟩;unfold pP;rw[mid_0,Nat.one_mul,show x.toNat=0 by omega,show p10 0=1 from rfl,Nat.one_mul];have h1:p10 (j+324)≤p10 (-x).toNat:=p10_le _ _ (by omega);rw[p10_add]at h1;have h2:=small_1;have h3:N*(2*p2 1074)≤p10 j*(2*p2 1074):=Nat.mul_le_mul_right _ (Nat.le_of_lt hN);have h4:p10 j*(2*p2 1074)<p10 j*p10 324:=Nat.mul_lt_mul_of_pos_left h2 (p10_pos j);rw[Nat.mul_left_comm]at h3;omega
theorem IsNear.zero (x:Int):IsNear 0 x 0:=by
 refine .inl ⟨by omega,.inl rfl,.inl ?_⟩;rw[mid_0,Nat.one_mul,Nat.zero_mul];exact p10_pos _
theorem near_is {D:List Nat} {P:Int} {r:Nat} (hD:Digs D) (hh:D.head? ≠some 0) (h:NearV D P r):IsNear (num D) (P-D.length) r:=by
 cases ho:oor D P
 ·obtain⟨⟨h1,h2,h3⟩,hr⟩:=h.2 ho
  by_cases h0:D=[]
  ·have e:=h1 (.inl h0)
   subst h0;subst e;exact IsNear.zero _
  by_cases hlo:P< -323
  ·have e:=h1 (.inr hlo)
   subst e;exact IsNear.small (num_lt D hD) (by omega)
  by_cases hhi:309<P
  ·exfalso
   rw[oor,if_neg (by intro h;rcases h with h|h;exact h0 h;omega),if_pos hhi]at ho;cases ho
  ·refine .inl ⟨hr,?_⟩
   have:=h3 h0 hlo hhi;unfold RndAt pP;rwa[←Nat.mul_assoc,show-(P-(D.length:Int))=D.length-P by omega]
 ·have e:=h.1 ho
  subst e;unfold oor at ho;split at ho
  ·cases ho
  rename_i hn
  have h0:D≠[]:=fun h=>hn (.inl h)
  split at ho
  ·rename_i h309
   cases D with
   |nil=>exact absurd rfl h0
   |cons d r=>
    refine IsNear.big (num_ge d r (by rintro rfl;exact hh rfl)) ?_;rw[List.length_cons];omega
  ·have hp9:P=309:=by omega
   subst hp9;refine .inr ⟨rfl,?_⟩
   have hl:¬dLess D bnd=true:=by
    intro hd;rw[hd]at ho;cases ho
   rw[less_iff D hD]at hl;have hk:=(big_iff (num D*p10 ((309:Int)-(D.length:Int)).toNat) (p10 ((D.length:Int)-309).toNat)).2 (Nat.le_of_not_lt hl);have e: -((309:Int)-(D.length:Int))=(D.length:Int)-309:=by omega
   have e2:num D*pP (309-(D.length:Int))=num D*p10 (309-(D.length:Int)).toNat*p2 1074:=by unfold pP;rw[Nat.mul_assoc]
   rw[e,e2];exact hk
def p5 (k:Nat):Nat:=5^k
structure It where
 k:Nat
 n:Nat
 b:Nat
 s:List UInt8
structure Ps where
 depth:Nat
 came:Nat
 st:Nat
 items:List It
 opn:List Nat
 word:List UInt8
 tok:Tk
 tx:Tr
def ps0 (depth:Nat):Ps:=⟨depth,0,0,[],[],[],t0,tr0⟩
noncomputable def nearF (D:List Nat) (P:Int):Nat:=open Classical in if h:∃r,NearV D P r then h.choose else 0
theorem near_uniq {D:List Nat} {P:Int} {r s:Nat} (hD:Digs D) (hh:D.head? ≠some 0) (h1:NearV D P r) (h2:NearV D P s):r=s:=(near_is hD hh h1).uniq (near_is hD hh h2)
theorem nearF_eq {D:List Nat} {P:Int} {r:Nat} (hD:Digs D) (hh:D.head? ≠some 0) (h:NearV D P r):nearF D P=r:=by
 have hex:∃r,NearV D P r:=⟨r,h⟩;unfold nearF;rw[dif_pos hex];exact near_uniq hD hh hex.choose_spec h
noncomputable def tokV (t:Tk):Nat×Nat:=open Classical in if Ends t.st then parseV t.neg (nearF t.D t.at)else(0,3)
def tokLost (t:Tk):Bool:=decide (7≤t.st)&& !t.pn&&oor t.D t.at
def blank (c:UInt8):Bool:=decide (c=32∨c=10∨c=13∨c=9)
def bump (items:List It):List Nat→List It
 |[]=>items
 |i::r=>match r with
  |[]=>items.modify i (fun x=>⟨x.k,x.n+1,x.b,x.s⟩)
  |_::_=>bump items r
def psEndValue (s:Ps):Ps:=⟨s.depth,s.came,5,bump s.items s.opn,s.opn,s.word,s.tok,s.tx⟩
def psEndInner (s:Ps):Ps:=psEndValue ⟨s.depth,s.came,s.st,s.items,s.opn.dropLast,s.word,s.tok,s.tx⟩
def psWord (s:Ps) (k:Nat) (rest:List UInt8):Ps:=⟨s.depth,s.came,6,s.items++[⟨k,0,0,[]⟩],s.opn,rest,s.tok,s.tx⟩
def psNest (s:Ps) (k st:Nat):Except Nat Ps:=
 if s.opn.length=s.depth then .error 4 else .ok ⟨s.depth,s.came,st,s.items++[⟨k,0,0,[]⟩],s.opn++[s.items.length],s.word,s.tok,s.tx⟩
def psSt (s:Ps) (st:Nat):Ps:=⟨s.depth,s.came,st,s.items,s.opn,s.word,s.tok,s.tx⟩
def psBegin (s:Ps) (c:UInt8):Except Nat Ps:=
 if c=110 then .ok (psWord s 0 [117,108,108])
 else if c=102 then .ok (psWord s 1 [97,108,115,101])
 else if c=116 then .ok (psWord s 2 [114,117,101])
 else if c=34 then .ok (psSt s 9)
 else if c=91 then psNest s 5 1
 else if c=123 then psNest s 6 3
 else match nxt s.tok c with
  |none=>.error 3
  |some t=>.ok ⟨s.depth,s.came,7,s.items,s.opn,s.word,t,s.tx⟩
def psArr (s:Ps):Bool:=match s.opn.getLast? with
 |none=>false
 |some i=>match s.items[i]? with
  |none=>false
  |some x=>decide (x.k=5)
def psBehind (s:Ps) (c:UInt8):Except Nat Ps:=
 if psArr s=true∧c=44 then .ok (psSt s 0)
 else if psArr s=false∧c=44 then .ok (psSt s 2)
 else if(psArr s=true∧c=93)∨(psArr s=false∧c=125)then .ok (psEndInner s)
 else .error 3
def psBetween (s:Ps) (c:UInt8):Except Nat Ps:=
 if(s.st=1∧c=93)∨(s.st=3∧c=125)then .ok (psEndInner s)
 else if s.st=0∨s.st=1 then psBegin s c
 else if(s.st=2∨s.st=3)∧c=34 then .ok (psSt s 8)
 else if s.st=4∧c=58 then .ok (psSt s 0)
 else if s.st=5∧s.opn≠[]then psBehind s c
 else .error 3
def psOut (s:Ps) (c:UInt8):Except Nat Ps:=if blank c=true then .ok s else psBetween s c
def psWordOn (s:Ps) (c:UInt8):Except Nat Ps:=
 match s.word with
 |[]=>.error 3
 |x::r=>if c≠x then .error 3 else if r=[]then .ok (psEndValue ⟨s.depth,s.came,s.st,s.items,s.opn,r,s.tok,s.tx⟩)else .ok ⟨s.depth,s.came,s.st,s.items,s.opn,r,s.tok,s.tx⟩
noncomputable def psEndTok (s:Ps):Except Nat Ps:=
 if(tokV s.tok).2≠0 then .error (tokV s.tok).2 else .ok (psEndValue ⟨s.depth,s.came,s.st,s.items++[⟨3,0,(tokV s.tok).1,[]⟩],s.opn,s.word,t0,s.tx⟩)
noncomputable def psTokOn (s:Ps) (c:UInt8):Except Nat Ps:=
 match nxt s.tok c with
 |some t=>if tokLost t=true then .error 6 else .ok ⟨s.depth,s.came,s.st,s.items,s.opn,s.word,t,s.tx⟩
 |none=>match psEndTok s with
  |.error n=>.error n
  |.ok s'=>psOut s' c
def psTextOn (s:Ps) (c:UInt8):Except Nat Ps:=
 match trNext s.tx c with
 |.error n=>.error n
 |.ok (t,false)=>.ok ⟨s.depth,s.came,s.st,s.items,s.opn,s.word,s.tok,t⟩
 |.ok (t,true)=>
  if s.st=8 then .ok ⟨s.depth,s.came,4,s.items++[⟨4,0,0,t.made⟩],s.opn,s.word,s.tok,tr0⟩
  else .ok (psEndValue ⟨s.depth,s.came,s.st,s.items++[⟨4,0,0,t.made⟩],s.opn,s.word,s.tok,tr0⟩)
noncomputable def psTake (s:Ps) (c:UInt8):Except Nat Ps:=
 if s.st=6 then psWordOn s c
 else if s.st=7 then psTokOn s c
 else if s.st=8∨s.st=9 then psTextOn s c
 else psOut s c
def psMore (s:Ps):Ps:=⟨s.depth,s.came+1,s.st,s.items,s.opn,s.word,s.tok,s.tx⟩
noncomputable def psRun (s:Ps):List UInt8→Except (Nat×Nat) Ps
 |[]=>.ok s
 |c::l=>match psTake s c with
  |.error n=>.error (n,s.came)
  |.ok s'=>psRun (psMore s') l
theorem psRun_append (s:Ps) (a b:List UInt8):psRun s (a++b)=match psRun s a with|.error x=>.error x|.ok s'=>psRun s' b:=by
 induction a generalizing s with
 |nil=>rfl
 |cons c a ih=>
  simp only[List.cons_append,psRun];cases psTake s c with
  |error n=>rfl
  |ok s'=>exact ih _
def us (l:List UInt8):List Value:=l.map (fun c=>Value.int .u8 ((c.toNat:Nat):Int))
theorem toNat_neP {c d:UInt8} (h:c≠d):c.toNat≠d.toNat:=fun e=>h (UInt8.toNat_inj.1 e)
theorem us_append (a b:List UInt8):us (a++b)=us a++us b:=by simp[us]
def gave (n:Nat):Ending:=.panicked [{v:=.iface 153 (.agg #[.int .i64 (n:Int)]),recovered:=false}]
theorem escaped_any (c:UInt8) (w:World):Calls Tryz.prog 211 #[.int .u8 (c.toNat:Int)] w fun e w'=>(match escV c with|some x=>e=.returned (.int .u8 (x.toNat:Int))|none=>e=gave 3)∧w'=w:=by
 by_cases h34:c=34
 ·subst h34
  show Calls Tryz.prog 211 #[.int .u8 (34:Int)] w fun e w'=>e=.returned (.int .u8 (34:Int))∧w'=w
  go_enter Tryz.func211,Tryz.ntmps211;go_wp2;go_ret;exact⟨rfl,rfl⟩
 have q34:((c.toNat:Int)==34)=false:=beq_eq_false_iff_ne.2 (by have:=toNat_neP h34;simp at this;omega);by_cases h92:c=92
 ·subst h92
  show Calls Tryz.prog 211 #[.int .u8 (92:Int)] w fun e w'=>e=.returned (.int .u8 (92:Int))∧w'=w
  go_enter Tryz.func211,Tryz.ntmps211;go_wp2;go_ret;exact⟨rfl,rfl⟩
 have q92:((c.toNat:Int)==92)=false:=beq_eq_false_iff_ne.2 (by have:=toNat_neP h92;simp at this;omega);by_cases h47:c=47
 ·subst h47
  show Calls Tryz.prog 211 #[.int .u8 (47:Int)] w fun e w'=>e=.returned (.int .u8 (47:Int))∧w'=w
  go_enter Tryz.func211,Tryz.ntmps211;go_wp2;go_ret;exact⟨rfl,rfl⟩
 have q47:((c.toNat:Int)==47)=false:=beq_eq_false_iff_ne.2 (by have:=toNat_neP h47;simp at this;omega);by_cases h98:c=98
 ·subst h98
  show Calls Tryz.prog 211 #[.int .u8 (98:Int)] w fun e w'=>e=.returned (.int .u8 (8:Int))∧w'=w
  go_enter Tryz.func211,Tryz.ntmps211;go_wp2;go_ret;exact⟨rfl,rfl⟩
 have q98:((c.toNat:Int)==98)=false:=beq_eq_false_iff_ne.2 (by have:=toNat_neP h98;simp at this;omega);by_cases h102:c=102
 ·subst h102
  show Calls Tryz.prog 211 #[.int .u8 (102:Int)] w fun e w'=>e=.returned (.int .u8 (12:Int))∧w'=w
  go_enter Tryz.func211,Tryz.ntmps211;go_wp2;go_ret;exact⟨rfl,rfl⟩
 have q102:((c.toNat:Int)==102)=false:=beq_eq_false_iff_ne.2 (by have:=toNat_neP h102;simp at this;omega);by_cases h110:c=110
 ·subst h110
  show Calls Tryz.prog 211 #[.int .u8 (110:Int)] w fun e w'=>e=.returned (.int .u8 (10:Int))∧w'=w
  go_enter Tryz.func211,Tryz.ntmps211;go_wp2;go_ret;exact⟨rfl,rfl⟩
 have q110:((c.toNat:Int)==110)=false:=beq_eq_false_iff_ne.2 (by have:=toNat_neP h110;simp at this;omega);by_cases h114:c=114
 ·subst h114
  show Calls Tryz.prog 211 #[.int .u8 (114:Int)] w fun e w'=>e=.returned (.int .u8 (13:Int))∧w'=w
  go_enter Tryz.func211,Tryz.ntmps211;go_wp2;go_ret;exact⟨rfl,rfl⟩
 have q114:((c.toNat:Int)==114)=false:=beq_eq_false_iff_ne.2 (by have:=toNat_neP h114;simp at this;omega);by_cases h116:c=116
 ·subst h116
  show Calls Tryz.prog 211 #[.int .u8 (116:Int)] w fun e w'=>e=.returned (.int .u8 (9:Int))∧w'=w
  go_enter Tryz.func211,Tryz.ntmps211;go_wp2;go_ret;exact⟨rfl,rfl⟩
 have q116:((c.toNat:Int)==116)=false:=beq_eq_false_iff_ne.2 (by have:=toNat_neP h116;simp at this;omega);have e0:escV c=none:=by simp[escV,h34,h92,h47,h98,h102,h110,h114,h116]
 rw[e0];clear e0 h34 h92 h47 h98 h102 h110 h114 h116;go_enter Tryz.func211,Tryz.ntmps211;go_wp2;exact⟨rfl,rfl,rfl⟩
theorem hex_any (c:UInt8) (w:World):Calls Tryz.prog 212 #[.int .u8 (c.toNat:Int)] w fun e w'=>(match hexV c with|some x=>e=.returned (.int .i32 (x:Int))|none=>e=gave 3)∧w'=w:=by
 have h256:c.toNat<256:=c.toNat_lt;unfold hexV;generalize c.toNat=n at*;by_cases h1:48≤n∧n≤57
 ·rw[if_pos h1]
  obtain⟨a,b⟩:=h1;go_enter Tryz.func212,Tryz.ntmps212;go_wp2;go_ret;exact⟨by simp only;go_num,rfl⟩
 rw[if_neg h1];by_cases h2:97≤n∧n≤102
 ·rw[if_pos h2]
  obtain⟨a,b⟩:=h2;clear h1;go_enter Tryz.func212,Tryz.ntmps212;go_wp2;go_ret;exact⟨by simp only;go_num,rfl⟩
 rw[if_neg h2];by_cases h3:65≤n∧n≤70
 ·rw[if_pos h3]
  obtain⟨a,b⟩:=h3;clear h1 h2;go_enter Tryz.func212,Tryz.ntmps212;go_wp2;go_ret;exact⟨by simp only;go_num,rfl⟩
 rw[if_neg h3];have hor:n<48∨(57<n∧n<65)∨(70<n∧n<97)∨102<n:=by omega
 clear h1 h2 h3;rcases hor with h|⟨h,h'⟩|⟨h,h'⟩|h
 all_goals
  go_enter Tryz.func212,Tryz.ntmps212;go_wp2;exact⟨rfl,rfl,rfl⟩
theorem byte_cast {n:Nat} (h:n<256):((UInt8.ofNat n).toNat:Int)=(n:Int):=by rw[UInt8.toNat_ofNat_of_lt' h]
theorem rune_fin {v v':Value} {l e:List UInt8} {w w2:World} {o:Obj} {k:Nat} {xs:List Value} (hown:w2.ownsRow 0 5 1 v' (l.length+k) (us l++xs)) (hx:us e=xs) (hk:e.length=k) (hg:(w.alloc o).grownBy w2 v.ownBlock) (hn:∀g',v'.ownBlock=some g'→v.ownBlock=some g'∨w.heap.size+1≤g'):
 w2.ownsRow 0 5 1 v' (l++e).length (us (l++e))∧Fr (fun i=>v.ownBlock=some i) w w2∧(∀g',v'.ownBlock=some g'→v.ownBlock=some g'∨w.heap.size≤g'):=by
 subst hx;subst hk;rw[us_append,List.length_append];exact⟨hown,((Fr.refl _ w).alloc _).grown hg (fun k hk=>.inl hk),fun g hg'=>(hn g hg').imp id (fun h=>by omega)⟩
theorem rune_1 (v:Value) (l:List UInt8) (r:Nat) (w:World) (ho:w.ownsRow 0 5 1 v l.length (us l)) (hl:l.length≤100000000000) (h1:0≤r) (h2:r<128):
 Calls Tryz.prog 172 #[v,.int .i32 (r:Int)] w fun e w'=>∃v',e=.returned v'∧w'.ownsRow 0 5 1 v' (l++encR r).length (us (l++encR r))∧Fr (fun i=>v.ownBlock=some i) w w'∧(∀g',v'.ownBlock=some g'→v.ownBlock=some g'∨w.heap.size≤g'):=by
 have hE:encR r=[UInt8.ofNat r]:=by unfold encR;rw[if_pos h2]
 have hx:us (encR r)=[.int .u8 (r:Int)]:=by
  rw[hE];simp only[us,List.map_cons,List.map_nil];rw[byte_cast (by omega)]
 have hk:(encR r).length=1:=by rw[hE];rfl
 obtain⟨R,hR⟩:∃R:Int,(r:Int)=R:=⟨_,rfl⟩;rw[hR]at hx ⊢;have HX:=hid hx;have HK:=hid hk;have g1:0≤R:=by omega
 have g2:R<128:=by omega
 clear hE hx hk h1 h2 hR;obtain⟨i0,hi,hz0,hz1,hz2⟩:=info_parts Tryz.info5;go_enter Tryz.func172,Tryz.ntmps172
 go_wp2_with (first
  |(at_builtin;refine wpList_append_d _ rfl _ _ 65 rfl 5 i0 (.int .u8 0) 1 1 Tryz.underlying65 hi hz0 hz1 hz2 rfl (by decide) _ _ _ rfl (ho.alloc _) ⟨w.heap.size,0,none⟩ 1 1 [.int .u8 R] rfl rfl ?c1 ?c2 ?c3 ?c4 ?_)
  |go_in)
 case c1=>
  intro j u hj
  match j,hj with
  |0,hj=>simp at hj;subst hj;simp[Addr.add]
  |(j+1),hj=>simp at hj
 case c2=>intro u hu;simp at hu;rcases hu with rfl<;>rfl
 case c3=>unfold maxLen;omega
 case c4=>omega
 intro v' w2 hown' hgrow hnew;have HFIN:=hid (rune_fin hown' HX.out HK.out hgrow hnew);clear hown' hgrow hnew ho;go_wp2;go_ret;exact⟨_,rfl,HFIN.out⟩
theorem rune_2 (v:Value) (l:List UInt8) (r:Nat) (w:World) (ho:w.ownsRow 0 5 1 v l.length (us l)) (hl:l.length≤100000000000) (h1:128≤r) (h2:r<2048):
 Calls Tryz.prog 172 #[v,.int .i32 (r:Int)] w fun e w'=>∃v',e=.returned v'∧w'.ownsRow 0 5 1 v' (l++encR r).length (us (l++encR r))∧Fr (fun i=>v.ownBlock=some i) w w'∧(∀g',v'.ownBlock=some g'→v.ownBlock=some g'∨w.heap.size≤g'):=by
 have hE:encR r=[UInt8.ofNat (192+r/64),UInt8.ofNat (128+r % 64)]:=by unfold encR;rw[if_neg (show¬r<128 by omega),if_pos h2]
 have hx:us (encR r)=[.int .u8 (192+(r:Int)/64),.int .u8 (128+(r:Int) % 64)]:=by
  rw[hE];simp only[us,List.map_cons,List.map_nil];rw[byte_cast (by omega),byte_cast (by omega)];simp only[Int.natCast_add,Int.natCast_ediv,Int.natCast_emod];rfl
 have hk:(encR r).length=2:=by rw[hE];rfl
 obtain⟨R,hR⟩:∃R:Int,(r:Int)=R:=⟨_,rfl⟩;rw[hR]at hx ⊢;have HX:=hid hx;have HK:=hid hk;have g1:128≤R:=by omega
 have g2:R<2048:=by omega
 clear hE hx hk h1 h2 hR;obtain⟨i0,hi,hz0,hz1,hz2⟩:=info_parts Tryz.info5;go_enter Tryz.func172,Tryz.ntmps172
 go_wp2_with (first
  |(at_builtin;refine wpList_append_d _ rfl _ _ 65 rfl 5 i0 (.int .u8 0) 1 1 Tryz.underlying65 hi hz0 hz1 hz2 rfl (by decide) _ _ _ rfl (ho.alloc _) ⟨w.heap.size,0,none⟩ 2 2 [.int .u8 (192+R/64),.int .u8 (128+R % 64)] rfl rfl ?c1 ?c2 ?c3 ?c4 ?_)
  |go_in)
 case c1=>
  intro j u hj
  match j,hj with
  |0,hj=>simp at hj;subst hj;simp[Addr.add]
  |1,hj=>simp at hj;subst hj;simp[Addr.add]
  |(j+2),hj=>simp at hj
 case c2=>intro u hu;simp at hu;rcases hu with rfl|rfl<;>rfl
 case c3=>unfold maxLen;omega
 case c4=>omega
 intro v' w2 hown' hgrow hnew;have HFIN:=hid (rune_fin hown' HX.out HK.out hgrow hnew);clear hown' hgrow hnew ho;go_wp2;go_ret;exact⟨_,rfl,HFIN.out⟩
theorem rune_3 (v:Value) (l:List UInt8) (r:Nat) (w:World) (ho:w.ownsRow 0 5 1 v l.length (us l)) (hl:l.length≤100000000000) (h1:2048≤r) (h2:r<55296):
 Calls Tryz.prog 172 #[v,.int .i32 (r:Int)] w fun e w'=>∃v',e=.returned v'∧w'.ownsRow 0 5 1 v' (l++encR r).length (us (l++encR r))∧Fr (fun i=>v.ownBlock=some i) w w'∧(∀g',v'.ownBlock=some g'→v.ownBlock=some g'∨w.heap.size≤g'):=by
 have hE:encR r=[UInt8.ofNat (224+r/4096),UInt8.ofNat (128+r/64 % 64),UInt8.ofNat (128+r % 64)]:=by unfold encR;rw[if_neg (show¬r<128 by omega),if_neg (show¬r<2048 by omega),if_pos (show r<65536 by omega)]
 have hx:us (encR r)=[.int .u8 (224+(r:Int)/4096),.int .u8 (128+(r:Int)/64 % 64),.int .u8 (128+(r:Int) % 64)]:=by
  rw[hE];simp only[us,List.map_cons,List.map_nil];rw[byte_cast (by omega),byte_cast (by omega),byte_cast (by omega)];simp only[Int.natCast_add,Int.natCast_ediv,Int.natCast_emod];rfl
 have hk:(encR r).length=3:=by rw[hE];rfl
 obtain⟨R,hR⟩:∃R:Int,(r:Int)=R:=⟨_,rfl⟩;rw[hR]at hx ⊢;have HX:=hid hx;have HK:=hid hk;have g1:2048≤R:=by omega
 have g2:R<55296:=by omega
 clear hE hx hk h1 h2 hR;obtain⟨i0,hi,hz0,hz1,hz2⟩:=info_parts Tryz.info5;go_enter Tryz.func172,Tryz.ntmps172
 go_wp2_with (first
  |(at_builtin;refine wpList_append_d _ rfl _ _ 65 rfl 5 i0 (.int .u8 0) 1 1 Tryz.underlying65 hi hz0 hz1 hz2 rfl (by decide) _ _ _ rfl (ho.alloc _) ⟨w.heap.size,0,none⟩ 3 3 [.int .u8 (224+R/4096),.int .u8 (128+R/64 % 64),.int .u8 (128+R % 64)] rfl rfl ?c1 ?c2 ?c3 ?c4 ?_)
  |go_in)
 case c1=>
  intro j u hj
  match j,hj with
  |0,hj=>simp at hj;subst hj;simp[Addr.add]
  |1,hj=>simp at hj;subst hj;simp[Addr.add]
  |2,hj=>simp at hj;subst hj;simp[Addr.add]
  |(j+3),hj=>simp at hj
 case c2=>intro u hu;simp at hu;rcases hu with rfl|rfl|rfl<;>rfl
 case c3=>unfold maxLen;omega
 case c4=>omega
 intro v' w2 hown' hgrow hnew;have HFIN:=hid (rune_fin hown' HX.out HK.out hgrow hnew);clear hown' hgrow hnew ho;go_wp2;go_ret;exact⟨_,rfl,HFIN.out⟩
theorem rune_4 (v:Value) (l:List UInt8) (r:Nat) (w:World) (ho:w.ownsRow 0 5 1 v l.length (us l)) (hl:l.length≤100000000000) (h1:57344≤r) (h2:r<65536):
 Calls Tryz.prog 172 #[v,.int .i32 (r:Int)] w fun e w'=>∃v',e=.returned v'∧w'.ownsRow 0 5 1 v' (l++encR r).length (us (l++encR r))∧Fr (fun i=>v.ownBlock=some i) w w'∧(∀g',v'.ownBlock=some g'→v.ownBlock=some g'∨w.heap.size≤g'):=by
 have hE:encR r=[UInt8.ofNat (224+r/4096),UInt8.ofNat (128+r/64 % 64),UInt8.ofNat (128+r % 64)]:=by unfold encR;rw[if_neg (show¬r<128 by omega),if_neg (show¬r<2048 by omega),if_pos h2]
 have hx:us (encR r)=[.int .u8 (224+(r:Int)/4096),.int .u8 (128+(r:Int)/64 % 64),.int .u8 (128+(r:Int) % 64)]:=by
  rw[hE];simp only[us,List.map_cons,List.map_nil];rw[byte_cast (by omega),byte_cast (by omega),byte_cast (by omega)];simp only[Int.natCast_add,Int.natCast_ediv,Int.natCast_emod];rfl
 have hk:(encR r).length=3:=by rw[hE];rfl
 obtain⟨R,hR⟩:∃R:Int,(r:Int)=R:=⟨_,rfl⟩;rw[hR]at hx ⊢;have HX:=hid hx;have HK:=hid hk;have g1:57344≤R:=by omega
 have g2:R<65536:=by omega
 clear hE hx hk h1 h2 hR;obtain⟨i0,hi,hz0,hz1,hz2⟩:=info_parts Tryz.info5;go_enter Tryz.func172,Tryz.ntmps172
 go_wp2_with (first
  |(at_builtin;refine wpList_append_d _ rfl _ _ 65 rfl 5 i0 (.int .u8 0) 1 1 Tryz.underlying65 hi hz0 hz1 hz2 rfl (by decide) _ _ _ rfl (ho.alloc _) ⟨w.heap.size,0,none⟩ 3 3 [.int .u8 (224+R/4096),.int .u8 (128+R/64 % 64),.int .u8 (128+R % 64)] rfl rfl ?c1 ?c2 ?c3 ?c4 ?_)
  |go_in)
 case c1=>
  intro j u hj
  match j,hj with
  |0,hj=>simp at hj;subst hj;simp[Addr.add]
  |1,hj=>simp at hj;subst hj;simp[Addr.add]
  |2,hj=>simp at hj;subst hj;simp[Addr.add]
  |(j+3),hj=>simp at hj
 case c2=>intro u hu;simp at hu;rcases hu with rfl|rfl|rfl<;>rfl
 case c3=>unfold maxLen;omega
 case c4=>omega
 intro v' w2 hown' hgrow hnew;have HFIN:=hid (rune_fin hown' HX.out HK.out hgrow hnew);clear hown' hgrow hnew ho;go_wp2;go_ret;exact⟨_,rfl,HFIN.out⟩
theorem rune_5 (v:Value) (l:List UInt8) (r:Nat) (w:World) (ho:w.ownsRow 0 5 1 v l.length (us l)) (hl:l.length≤100000000000) (h1:65536≤r) (h2:r≤1114111):
 Calls Tryz.prog 172 #[v,.int .i32 (r:Int)] w fun e w'=>∃v',e=.returned v'∧w'.ownsRow 0 5 1 v' (l++encR r).length (us (l++encR r))∧Fr (fun i=>v.ownBlock=some i) w w'∧(∀g',v'.ownBlock=some g'→v.ownBlock=some g'∨w.heap.size≤g'):=by
 have hE:encR r=[UInt8.ofNat (240+r/262144),UInt8.ofNat (128+r/4096 % 64),UInt8.ofNat (128+r/64 % 64),UInt8.ofNat (128+r % 64)]:=by unfold encR;rw[if_neg (show¬r<128 by omega),if_neg (show¬r<2048 by omega),if_neg (show¬r<65536 by omega)]
 have hx:us (encR r)=[.int .u8 (240+(r:Int)/262144),.int .u8 (128+(r:Int)/4096 % 64),.int .u8 (128+(r:Int)/64 % 64),.int .u8 (128+(r:Int) % 64)]:=by
  rw[hE];simp only[us,List.map_cons,List.map_nil];rw[byte_cast (by omega),byte_cast (by omega),byte_cast (by omega),byte_cast (by omega)];simp only[Int.natCast_add,Int.natCast_ediv,Int.natCast_emod];rfl
 have hk:(encR r).length=4:=by rw[hE];rfl
 obtain⟨R,hR⟩:∃R:Int,(r:Int)=R:=⟨_,rfl⟩;rw[hR]at hx ⊢;have HX:=hid hx;have HK:=hid hk;have g1:65536≤R:=by omega
 have g2:R≤1114111:=by omega
 clear hE hx hk h1 h2 hR;obtain⟨i0,hi,hz0,hz1,hz2⟩:=info_parts Tryz.info5;go_enter Tryz.func172,Tryz.ntmps172
 go_wp2_with (first
  |(at_builtin;refine wpList_append_d _ rfl _ _ 65 rfl 5 i0 (.int .u8 0) 1 1 Tryz.underlying65 hi hz0 hz1 hz2 rfl (by decide) _ _ _ rfl (ho.alloc _) ⟨w.heap.size,0,none⟩ 4 4 [.int .u8 (240+R/262144),.int .u8 (128+R/4096 % 64),.int .u8 (128+R/64 % 64),.int .u8 (128+R % 64)] rfl rfl ?c1 ?c2 ?c3 ?c4 ?_)
  |go_in)
 case c1=>
  intro j u hj
  match j,hj with
  |0,hj=>simp at hj;subst hj;simp[Addr.add]
  |1,hj=>simp at hj;subst hj;simp[Addr.add]
  |2,hj=>simp at hj;subst hj;simp[Addr.add]
  |3,hj=>simp at hj;subst hj;simp[Addr.add]
  |(j+4),hj=>simp at hj
 case c2=>intro u hu;simp at hu;rcases hu with rfl|rfl|rfl|rfl<;>rfl
 case c3=>unfold maxLen;omega
 case c4=>omega
 intro v' w2 hown' hgrow hnew;have HFIN:=hid (rune_fin hown' HX.out HK.out hgrow hnew);clear hown' hgrow hnew ho;go_wp2;go_ret;exact⟨_,rfl,HFIN.out⟩
theorem rune_any (v:Value) (l:List UInt8) (r:Nat) (w:World) (ho:w.ownsRow 0 5 1 v l.length (us l)) (hl:l.length≤100000000000) (hr:r<55296∨(57344≤r∧r≤1114111)):
 Calls Tryz.prog 172 #[v,.int .i32 (r:Int)] w fun e w'=>∃v',e=.returned v'∧w'.ownsRow 0 5 1 v' (l++encR r).length (us (l++encR r))∧Fr (fun i=>v.ownBlock=some i) w w'∧(∀g',v'.ownBlock=some g'→v.ownBlock=some g'∨w.heap.size≤g'):=by
 by_cases h1:r<128
 ·exact rune_1 v l r w ho hl (Nat.zero_le _) h1
 by_cases h2:r<2048
 ·exact rune_2 v l r w ho hl (by omega) h2
 by_cases h3:r<55296
 ·exact rune_3 v l r w ho hl (by omega) h3
 by_cases h4:r<65536
 ·exact rune_4 v l r w ho hl (by omega) h4
 ·exact rune_5 v l r w ho hl (by omega) (by omega)
end Go.Proofs.YtmkkibaacclhnaaGreatDoor
