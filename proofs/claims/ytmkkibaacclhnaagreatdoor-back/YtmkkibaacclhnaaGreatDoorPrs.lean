/-
  A step of the walk, the part named Prs. No theorem of the row.
-/
import Derived.Test.YtmkkibaacclhnaaGreatDoorWa
namespace Go.Proofs.YtmkkibaacclhnaaGreatDoor
open Go.RowKit
set_option maxRecDepth 100000
set_option maxHeartbeats 16000000
theorem isBlank_any (c:UInt8) (w:World):Calls Tryz.prog 84 #[.int .u8 (c.toNat:Int)] w fun e w'=>e=.returned (.bool (blank c))∧w'=w:=by
 by_cases h32:c=32
 ·subst h32
  show Calls Tryz.prog 84 #[.int .u8 (32:Int)] w fun e w'=>e=.returned (.bool true)∧w'=w
  go_enter Tryz.func84,Tryz.ntmps84;go_wp2;go_ret;exact⟨rfl,rfl⟩
 have q32:((c.toNat:Int)==32)=false:=beq_eq_false_iff_ne.2 (by have:=toNat_neP h32;simp at this;omega);by_cases h10:c=10
 ·subst h10
  show Calls Tryz.prog 84 #[.int .u8 (10:Int)] w fun e w'=>e=.returned (.bool true)∧w'=w
  go_enter Tryz.func84,Tryz.ntmps84;go_wp2;go_ret;exact⟨rfl,rfl⟩
 have q10:((c.toNat:Int)==10)=false:=beq_eq_false_iff_ne.2 (by have:=toNat_neP h10;simp at this;omega);by_cases h13:c=13
 ·subst h13
  show Calls Tryz.prog 84 #[.int .u8 (13:Int)] w fun e w'=>e=.returned (.bool true)∧w'=w
  go_enter Tryz.func84,Tryz.ntmps84;go_wp2;go_ret;exact⟨rfl,rfl⟩
 have q13:((c.toNat:Int)==13)=false:=beq_eq_false_iff_ne.2 (by have:=toNat_neP h13;simp at this;omega);by_cases h9:c=9
 ·subst h9
  show Calls Tryz.prog 84 #[.int .u8 (9:Int)] w fun e w'=>e=.returned (.bool true)∧w'=w
  go_enter Tryz.func84,Tryz.ntmps84;go_wp2;go_ret;exact⟨rfl,rfl⟩
 have q9:((c.toNat:Int)==9)=false:=beq_eq_false_iff_ne.2 (by have:=toNat_neP h9;simp at this;omega);have hb:blank c=false:=by simp[blank,h32,h10,h13,h9]
 rw[hb];clear hb h32 h10 h13 h9;go_enter Tryz.func84,Tryz.ntmps84;go_wp2;go_ret;exact⟨rfl,rfl⟩
theorem PErr.same {B:Nat} {vi vo vt vm:Value} {s:Ps} {w w':World} {S:Nat→Prop} (h:PR B w vi vo vt vm s) (hF:Fr (fun _=>False) w w'):PErr B s.came S w w':=
 ⟨_,hF.heap h.blk id,rfl,rfl,hF.mono (fun _ h=>h.elim)⟩
theorem takeOfWord_any (B:Nat) (vi vo vt vm:Value) (s:Ps) (x:UInt8) (r:List UInt8) (c:UInt8) (w:World) (h:PR B w vi vo vt vm s) (hq:Nn vt vm) (hw:s.word=x::r) (hr:r.length≤10) (ho:OpnOk s) (hlen:s.items.length≤10000000) (hol:s.opn.length≤10000000):
 Calls Tryz.prog 81 #[.pointer (some ⟨B,0,none⟩),.int .u8 (c.toNat:Int)] w (PDone B s.came (own B vi vo vt vm) w (psWordOn s c)):=by
 have H:=hid (PC.start h);have HP:=hid h;have k7:=blk_cell h.blk (show(psCells s vi vo vt vm)[7]? =some (.string (ofL s.word))from rfl);have f7:=blk_free (j:=7) h.blk;rw[hw]at k7;have hsz:(ofL (x::r)).size=r.length+1:=by rw[ofL_size];rfl
 have hg0:(ofL (x::r))[0]'(by rw[hsz];omega)=x:=rfl;have hex:(ofL (x::r)).extract 1 (r.length+1)=ofL r:=by rw[ofL_extract];simp
 unfold psWordOn;rw[hw];simp only;by_cases hc:c≠x
 ·rw[if_pos hc]
  have hx:((c.toNat:Int)!=(x.toNat:Int))=true:=bne_iff_ne.2 (by have:=toNat_neP hc;omega);clear h hw hc ho;go_enter Tryz.func81,Tryz.ntmps81;go_wp2;exact⟨rfl,rfl,PErr.same HP.out (Fr.refl _ _)⟩
 ·rw[if_neg hc]
  have hx:((c.toNat:Int)!=(x.toNat:Int))=false:=by
   have:c=x:=by
    rcases UInt8.decEq c x with h|h
    ·exact absurd h hc
    ·exact h
   rw[this];simp
  have HR:=hid (H.out.cell 7 (.string (ofL r)) ⟨s.depth,s.came,s.st,s.items,s.opn,r,s.tok,s.tx⟩ rfl rfl rfl rfl rfl);by_cases hr0:r=[]
  ·rw[if_pos hr0]
   subst hr0;have hne:(ofL []).toList.isEmpty=true:=by rw[ofL_toList];rfl
   have HE:=hid (fun (w:World) (hp:PR B w vi vo vt vm ⟨s.depth,s.came,s.st,s.items,s.opn,[],s.tok,s.tx⟩)=>endValue_any B vi vo vt vm ⟨s.depth,s.came,s.st,s.items,s.opn,[],s.tok,s.tx⟩ w hp hq ho hlen hol);clear h hw hc ho;go_enter Tryz.func81,Tryz.ntmps81
   go_wp2_with fail
   refine Calls.mono (HE.out _ HR.out.pr) ?_;rintro e w2 ⟨rfl,hp⟩;have HQ:=hid (HR.out.trans hp);clear hp;go_wp2;go_end0;exact⟨rfl,HQ.out⟩
  ·rw[if_neg hr0]
   have hne:(ofL r).toList.isEmpty=false:=by rw[ofL_toList];cases r with|nil=>exact absurd rfl hr0|cons=>rfl
   clear h hw hc ho hr0;go_enter Tryz.func81,Tryz.ntmps81;go_wp2;go_end0;exact⟨rfl,_,_,_,_,HR.out,hq.q _⟩
theorem takeBehind_any (B:Nat) (vi vo vt vm:Value) (s:Ps) (pre:List Nat) (i:Nat) (x:It) (c:UInt8) (w:World) (h:PR B w vi vo vt vm s) (hq:Nn vt vm) (ho:s.opn=pre++[i]) (hi:s.items[i]? =some x) (hok:OpnOk s) (hlen:s.items.length≤10000000) (hpl:pre.length≤10000000):
 Calls Tryz.prog 140 #[.pointer (some ⟨B,0,none⟩),.int .u8 (c.toNat:Int)] w (PDone B s.came (own B vi vo vt vm) w (psBehind s c)):=by
 have hil:i<s.items.length:=by
  rcases Nat.lt_or_ge i s.items.length with h1|h1
  ·exact h1
  ·rw[List.getElem?_eq_none h1]at hi;cases hi
 have harr:psArr s=decide (x.k=5):=by unfold psArr;rw[ho];simp[hi]
 have HI:=hid (fun (w:World) (hp:PR B w vi vo vt vm s)=>endInner_any B vi vo vt vm s pre i w hp hq ho hok hlen hpl);have H:=hid (PC.start h).drew;obtain⟨gi,ci,rfl⟩:=row_pos h.oi (by omega);have hoo:=h.oo;rw[ho]at hoo;have hol:(pre++[i]).length=pre.length+1:=by simp
 rw[hol]at hoo;obtain⟨go,co,rfl⟩:=row_pos hoo (by omega);have k5:=blk_cell h.blk (show(psCells s (.slice (some ⟨gi,0,none⟩) s.items.length ci) (.slice (some ⟨go,0,none⟩) (pre.length+1) co) vt vm)[5]? =some (.slice (some ⟨gi,0,none⟩) s.items.length ci)from rfl);have k6:=blk_cell h.blk (show(psCells s (.slice (some ⟨gi,0,none⟩) s.items.length ci) (.slice (some ⟨go,0,none⟩) (pre.length+1) co) vt vm)[6]? =some (.slice (some ⟨go,0,none⟩) (pre.length+1) co)from rfl);have k4:=blk_cell h.blk (show(psCells s (.slice (some ⟨gi,0,none⟩) s.items.length ci) (.slice (some ⟨go,0,none⟩) (pre.length+1) co) vt vm)[4]? =some (.int .i64 (s.st:Int))from rfl);have f4:=blk_free (j:=4) h.blk;have ko:=rowCell hoo pre.length (.int .i64 (i:Int)) (by simp[opV]);have kk:=rowCell h.oi (i*4) (.int .i64 (x.k:Int)) (by rw[←Nat.add_zero (i*4),itsV_get s.items i 0 x hi (by omega)];rfl);have hci:=ownsRow_cap h.oi;have hco:=ownsRow_cap hoo;unfold psBehind;rw[harr];clear harr h hoo hi hol hok;have hb44:c=44→((c.toNat:Int)==44)=true:=fun h=>by rw[h];rfl
 have hn44:c≠44→((c.toNat:Int)==44)=false:=fun h=>beq_eq_false_iff_ne.2 (by have:=toNat_neP h;simp at this;omega)
 have hb93:c=93→((c.toNat:Int)==93)=true:=fun h=>by rw[h];rfl
 have hn93:c≠93→((c.toNat:Int)==93)=false:=fun h=>beq_eq_false_iff_ne.2 (by have:=toNat_neP h;simp at this;omega)
 have hb125:c=125→((c.toNat:Int)==125)=true:=fun h=>by rw[h];rfl
 have hn125:c≠125→((c.toNat:Int)==125)=false:=fun h=>beq_eq_false_iff_ne.2 (by have:=toNat_neP h;simp at this;omega)
 generalize hN:s.items.length=N at*;generalize hM:pre.length=M at*;have HE:=hid H.out.err;have H0:=hid (H.out.cell 4 (.int .i64 0) (psSt s 0) rfl rfl rfl rfl rfl);have H2:=hid (H.out.cell 4 (.int .i64 2) (psSt s 2) rfl rfl rfl rfl rfl);clear ho hN hM;by_cases h5:x.k=5
 ·rw[decide_eq_true h5]
  have hk5:((x.k:Int)==5)=true:=by rw[h5];rfl
  clear h5;simp only[true_and,Bool.true_eq_false,false_and,or_false,if_false];by_cases c44:c=44
  ·rw[if_pos c44]
   have g44:=hb44 c44;clear hb44 hn44 hb93 hn93 hb125 hn125 c44;go_enter Tryz.func140,Tryz.ntmps140;go_wp2;go_region
   all_goals
    go_wp2;go_end0;exact⟨rfl,_,_,_,_,H0.out,hq.q _⟩
  rw[if_neg c44];have g44:=hn44 c44;by_cases c93:c=93
  ·rw[if_pos c93]
   have g93:=hb93 c93;clear hb44 hn44 hb93 hn93 hb125 hn125 c44 c93;go_enter Tryz.func140,Tryz.ntmps140;go_wp2;go_region
   all_goals
    go_wp2_with fail
    refine Calls.mono (HI.out _ H.out.pr) ?_;rintro e w2 ⟨rfl,hp⟩;have HQ:=hid (H.out.trans hp);clear hp;go_wp2;go_end0;exact⟨rfl,HQ.out⟩
  ·rw[if_neg c93]
   have g93:=hn93 c93;clear hb44 hn44 hb93 hn93 hb125 hn125 c44 c93;go_enter Tryz.func140,Tryz.ntmps140;go_wp2;go_region
   all_goals
    go_wp2;exact⟨rfl,rfl,HE.out⟩
 ·rw[decide_eq_false h5]
  have hk5:((x.k:Int)==5)=false:=beq_eq_false_iff_ne.2 (by omega);clear h5;simp only[Bool.false_eq_true,false_and,true_and,false_or,if_false];by_cases c44:c=44
  ·rw[if_pos c44]
   have g44:=hb44 c44;clear hb44 hn44 hb93 hn93 hb125 hn125 c44;go_enter Tryz.func140,Tryz.ntmps140;go_wp2;go_region
   all_goals
    go_wp2;go_end0;exact⟨rfl,_,_,_,_,H2.out,hq.q _⟩
  rw[if_neg c44];have g44:=hn44 c44;by_cases c125:c=125
  ·rw[if_pos c125]
   have g125:=hb125 c125;clear hb44 hn44 hb93 hn93 hb125 hn125 c44 c125;go_enter Tryz.func140,Tryz.ntmps140;go_wp2;go_region
   all_goals
    go_wp2_with fail
    refine Calls.mono (HI.out _ H.out.pr) ?_;rintro e w2 ⟨rfl,hp⟩;have HQ:=hid (H.out.trans hp);clear hp;go_wp2;go_end0;exact⟨rfl,HQ.out⟩
  ·rw[if_neg c125]
   have g125:=hn125 c125;clear hb44 hn44 hb93 hn93 hb125 hn125 c44 c125;go_enter Tryz.func140,Tryz.ntmps140;go_wp2;go_region
   all_goals
    go_wp2;exact⟨rfl,rfl,HE.out⟩
theorem cells_tok {s:Ps} {vi vo vt vm vt':Value} {cs':Array Value} {t':Tk} (h1:TkIn cs' 8 vt' t') (h2:Apart 8 (psCells s vi vo vt vm) cs'):cs'=psCells ⟨s.depth,s.came,s.st,s.items,s.opn,s.word,t',s.tx⟩ vi vo vt' vm:=by
 apply Array.ext_getElem?;intro j
 match j with
 |0=>exact(h2.2 0 (by omega)).trans rfl
 |1=>exact(h2.2 1 (by omega)).trans rfl
 |2=>exact(h2.2 2 (by omega)).trans rfl
 |3=>exact(h2.2 3 (by omega)).trans rfl
 |4=>exact(h2.2 4 (by omega)).trans rfl
 |5=>exact(h2.2 5 (by omega)).trans rfl
 |6=>exact(h2.2 6 (by omega)).trans rfl
 |7=>exact(h2.2 7 (by omega)).trans rfl
 |8=>exact h1.c0
 |9=>exact h1.c1
 |10=>exact h1.c2
 |11=>exact h1.c3
 |12=>exact h1.c4
 |13=>exact h1.c5
 |14=>exact(h2.2 14 (by omega)).trans rfl
 |15=>exact(h2.2 15 (by omega)).trans rfl
 |16=>exact(h2.2 16 (by omega)).trans rfl
 |17=>exact(h2.2 17 (by omega)).trans rfl
 |18=>exact(h2.2 18 (by omega)).trans rfl
 |19=>exact(h2.2 19 (by omega)).trans rfl
 |20=>exact(h2.2 20 (by omega)).trans rfl
 |21=>exact(h2.2 21 (by omega)).trans rfl
 |(j+22)=>
  rw[Array.getElem?_eq_none (by rw[h2.1];show 22≤_;omega),Array.getElem?_eq_none (by show 22≤_;omega)]
theorem cells_tr {s:Ps} {vi vo vt vm vm':Value} {cs':Array Value} {t':Tr} (h1:TrIn cs' 14 vm' t') (h2:ApartR 14 (psCells s vi vo vt vm) cs'):cs'=psCells ⟨s.depth,s.came,s.st,s.items,s.opn,s.word,s.tok,t'⟩ vi vo vt vm':=by
 apply Array.ext_getElem?;intro j
 match j with
 |0=>exact(h2.2 0 (by omega)).trans rfl
 |1=>exact(h2.2 1 (by omega)).trans rfl
 |2=>exact(h2.2 2 (by omega)).trans rfl
 |3=>exact(h2.2 3 (by omega)).trans rfl
 |4=>exact(h2.2 4 (by omega)).trans rfl
 |5=>exact(h2.2 5 (by omega)).trans rfl
 |6=>exact(h2.2 6 (by omega)).trans rfl
 |7=>exact(h2.2 7 (by omega)).trans rfl
 |8=>exact(h2.2 8 (by omega)).trans rfl
 |9=>exact(h2.2 9 (by omega)).trans rfl
 |10=>exact(h2.2 10 (by omega)).trans rfl
 |11=>exact(h2.2 11 (by omega)).trans rfl
 |12=>exact(h2.2 12 (by omega)).trans rfl
 |13=>exact(h2.2 13 (by omega)).trans rfl
 |14=>exact h1.c0
 |15=>exact h1.c1
 |16=>exact h1.c2
 |17=>exact h1.c3
 |18=>exact h1.c4
 |19=>exact h1.c5
 |20=>exact h1.c6
 |21=>exact h1.c7
 |(j+22)=>
  rw[Array.getElem?_eq_none (by rw[h2.1];show 22≤_;omega),Array.getElem?_eq_none (by show 22≤_;omega)]
theorem PC.tok {B:Nat} {S:Nat→Prop} {w0 W w':World} {vi vo vt vm:Value} {s:Ps} {t':Tk} (h:PC B S w0 vi vo vt vm W s) (hvm:vm.ownBlock=none) (hn:NextPost 0 B 8 113 (psCells s vi vo vt vm) vt W w' t'):
 ∃vt',PC B S w0 vi vo vt' vm w' ⟨s.depth,s.came,s.st,s.items,s.opn,s.word,t',s.tx⟩:=by
 obtain⟨⟨a,b,c,d,e,f⟩,g,k⟩:=h;obtain⟨cs',vt',⟨a',b',c'⟩,ap,fr,nw⟩:=hn;have he:=cells_tok b' ap;subst he;have hs:=g.size
 have hne:∀{e1 s1 n:Nat} {v:Value} {xs:List Value},W.ownsRow 0 e1 s1 v n xs→e1≠113→e1≠5→∀i,v.ownBlock=some i→¬(i=B∨vt.ownBlock=some i):=by
  intro e1 s1 n v xs hv h75 h5 i hi hx;rcases hx with rfl|hx
  ·exact rowT hv a (fun h=>h75 h.symm) hi
  ·rcases rowNe hv d h5 with h|h
   ·rw[h]at hi;cases hi
   ·exact h (hi.trans hx.symm)
 refine⟨vt',⟨a',rowFr b fr (hne b (by decide) (by decide)),rowFr c fr (hne c (by decide) (by decide)),c',rowFr e fr (fun i hi=>by rw[hvm]at hi;cases hi),.inr hvm⟩,?_,?_⟩
 ·exact g.trans' fr (fun i hi=>k i (hi.elim .inl (fun h=>.inr (.inr (.inr (.inl h))))))
 ·intro i hi
  rcases hi with hi|hi|hi|hi|hi
  ·exact k i (.inl hi)
  ·exact k i (.inr (.inl hi))
  ·exact k i (.inr (.inr (.inl hi)))
  ·rcases nw i hi with h1|h1
   ·exact k i (.inr (.inr (.inr (.inl h1))))
   ·exact .inr (by omega)
  ·exact k i (.inr (.inr (.inr (.inr hi))))
theorem PR.tkAt {B:Nat} {w:World} {vi vo vt vm:Value} {s:Ps} (h:PR B w vi vo vt vm s):TkAt 0 w B 8 113 (psCells s vi vo vt vm) vt s.tok:=⟨h.blk,⟨rfl,rfl,rfl,rfl,rfl,rfl⟩,h.ot⟩
theorem PR.trAt {B:Nat} {w:World} {vi vo vt vm:Value} {s:Ps} (h:PR B w vi vo vt vm s):TrAt 0 w B 14 113 (psCells s vi vo vt vm) vm s.tx:=⟨h.blk,⟨rfl,rfl,rfl,rfl,rfl,rfl,rfl,rfl⟩,h.om⟩
theorem beginValue_any (B:Nat) (vi vo vt vm:Value) (s:Ps) (c:UInt8) (w:World) (h:PR B w vi vo vt vm s) (hq:Nn vt vm) (ht0:s.tok=t0) (hlen:s.items.length≤10000000) (hol:s.opn.length≤10000000):
 Calls Tryz.prog 139 #[.pointer (some ⟨B,0,none⟩),.int .u8 (c.toNat:Int)] w (PDone B s.came (own B vi vo vt vm) w (psBegin s c)):=by
 have H:=hid (PC.start h);have HP:=hid h;have f4:=blk_free (j:=4) h.blk;have k4:=blk_cell h.blk (show(psCells s vi vo vt vm)[4]? =some (.int .i64 (s.st:Int))from rfl);have HT:=hid ht0;clear ht0;unfold psBegin;by_cases h110:c=110
 ·rw[if_pos h110]
  have q110:((c.toNat:Int)==110)=true:=by rw[h110];rfl
  clear h110;have HQ:=hid (beginWord_any B vi vo vt vm s 0 [117,108,108] w h hq hlen);clear h;go_enter Tryz.func139,Tryz.ntmps139
  go_wp2_with fail
  refine Calls.mono HQ.out ?_;rintro e w2 ⟨rfl,hp⟩;have HR:=hid hp;clear hp;go_wp2;go_end0;exact⟨rfl,HR.out⟩
 rw[if_neg h110];have q110:((c.toNat:Int)==110)=false:=beq_eq_false_iff_ne.2 (by have:=toNat_neP h110;simp at this;omega);clear h110;by_cases h102:c=102
 ·rw[if_pos h102]
  have q102:((c.toNat:Int)==102)=true:=by rw[h102];rfl
  clear h102;have HQ:=hid (beginWord_any B vi vo vt vm s 1 [97,108,115,101] w h hq hlen);clear h;go_enter Tryz.func139,Tryz.ntmps139
  go_wp2_with fail
  refine Calls.mono HQ.out ?_;rintro e w2 ⟨rfl,hp⟩;have HR:=hid hp;clear hp;go_wp2;go_end0;exact⟨rfl,HR.out⟩
 rw[if_neg h102];have q102:((c.toNat:Int)==102)=false:=beq_eq_false_iff_ne.2 (by have:=toNat_neP h102;simp at this;omega);clear h102;by_cases h116:c=116
 ·rw[if_pos h116]
  have q116:((c.toNat:Int)==116)=true:=by rw[h116];rfl
  clear h116;have HQ:=hid (beginWord_any B vi vo vt vm s 2 [114,117,101] w h hq hlen);clear h;go_enter Tryz.func139,Tryz.ntmps139
  go_wp2_with fail
  refine Calls.mono HQ.out ?_;rintro e w2 ⟨rfl,hp⟩;have HR:=hid hp;clear hp;go_wp2;go_end0;exact⟨rfl,HR.out⟩
 rw[if_neg h116];have q116:((c.toNat:Int)==116)=false:=beq_eq_false_iff_ne.2 (by have:=toNat_neP h116;simp at this;omega);clear h116;by_cases h34:c=34
 ·rw[if_pos h34]
  have q34:((c.toNat:Int)==34)=true:=by rw[h34];rfl
  clear h34;have HR:=hid (H.out.cell 4 (.int .i64 9) (psSt s 9) rfl rfl rfl rfl rfl);clear h;go_enter Tryz.func139,Tryz.ntmps139;go_wp2;go_end0;exact⟨rfl,_,_,_,_,HR.out,hq.q _⟩
 rw[if_neg h34];have q34:((c.toNat:Int)==34)=false:=beq_eq_false_iff_ne.2 (by have:=toNat_neP h34;simp at this;omega);clear h34;by_cases h91:c=91
 ·rw[if_pos h91]
  have q91:((c.toNat:Int)==91)=true:=by rw[h91];rfl
  clear h91;have hs:=beginNest_any B vi vo vt vm s 5 1 w h hq hlen hol;clear h;cases hr:psNest s 5 1 with
  |error n=>
   rw[hr]at hs;have HQ:=hid hs;clear hs hr;go_enter Tryz.func139,Tryz.ntmps139
   go_wp2_with fail
   refine Calls.mono HQ.out ?_;rintro e w2 ⟨rfl,hF⟩;exact⟨rfl,rfl,hF⟩
  |ok s'=>
   rw[hr]at hs;have HQ:=hid hs;clear hs hr;go_enter Tryz.func139,Tryz.ntmps139
   go_wp2_with fail
   refine Calls.mono HQ.out ?_;rintro e w2 ⟨rfl,hp⟩;have HR:=hid hp;clear hp;go_wp2;go_end0;exact⟨rfl,HR.out⟩
 rw[if_neg h91];have q91:((c.toNat:Int)==91)=false:=beq_eq_false_iff_ne.2 (by have:=toNat_neP h91;simp at this;omega);clear h91;by_cases h123:c=123
 ·rw[if_pos h123]
  have q123:((c.toNat:Int)==123)=true:=by rw[h123];rfl
  clear h123;have hs:=beginNest_any B vi vo vt vm s 6 3 w h hq hlen hol;clear h;cases hr:psNest s 6 3 with
  |error n=>
   rw[hr]at hs;have HQ:=hid hs;clear hs hr;go_enter Tryz.func139,Tryz.ntmps139
   go_wp2_with fail
   refine Calls.mono HQ.out ?_;rintro e w2 ⟨rfl,hF⟩;exact⟨rfl,rfl,hF⟩
  |ok s'=>
   rw[hr]at hs;have HQ:=hid hs;clear hs hr;go_enter Tryz.func139,Tryz.ntmps139
   go_wp2_with fail
   refine Calls.mono HQ.out ?_;rintro e w2 ⟨rfl,hp⟩;have HR:=hid hp;clear hp;go_wp2;go_end0;exact⟨rfl,HR.out⟩
 rw[if_neg h123];have q123:((c.toNat:Int)==123)=false:=beq_eq_false_iff_ne.2 (by have:=toNat_neP h123;simp at this;omega);clear h123;by_cases hb:beh s.tok.st c=0
 ·have hx:nxt s.tok c=none:=by rw[nxt,if_pos hb]
  rw[hx];have HQ:=hid (next_none 0 B 8 113 _ vt s.tok c w (by rw[HT.out];decide) h.tkAt hb);clear h hb hx;go_enter Tryz.func139,Tryz.ntmps139
  go_wp2_with fail
  refine Calls.mono HQ.out ?_;rintro e w2 ⟨rfl,rfl⟩;go_wp2;exact⟨rfl,rfl,PErr.same HP.out (Fr.refl _ _)⟩
 ·have hx:nxt s.tok c=some (nxtTo s.tok c (beh s.tok.st c)):=by rw[nxt,if_neg hb]
  rw[hx];have HQ:=hid (next_some 0 B 8 113 _ vt s.tok c w 0 (by decide) (by omega) (by omega) (by rw[HT.out];exact t0_ok) h.tkAt hb);generalize nxtTo s.tok c (beh s.tok.st c)=t' at*;clear h hb hx;go_enter Tryz.func139,Tryz.ntmps139
  go_wp2_with fail
  refine Calls.mono HQ.out ?_;rintro e w2 ⟨rfl,hp⟩;obtain⟨vt',hR⟩:=H.out.tok hq.2 hp;have r4:=blk_cell hR.pr.blk (show(psCells ⟨s.depth,s.came,s.st,s.items,s.opn,s.word,t',s.tx⟩ vi vo vt' vm)[4]? =some (.int .i64 (s.st:Int))from rfl);have g4:=blk_free (j:=4) hR.pr.blk;have HR:=hid (hR.cell 4 (.int .i64 7) ⟨s.depth,s.came,7,s.items,s.opn,s.word,t',s.tx⟩ rfl rfl rfl rfl rfl);clear hp hR;go_wp2;go_end0;exact⟨rfl,_,_,_,_,HR.out,fun h=>absurd rfl h,fun _ _=>hq.2⟩
end Go.Proofs.YtmkkibaacclhnaaGreatDoor
