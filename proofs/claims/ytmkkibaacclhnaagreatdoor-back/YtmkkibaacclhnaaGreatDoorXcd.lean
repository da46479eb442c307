/-
  A step of the walk, the part named Xcd. No theorem of the row.
-/
import Derived.Test.YtmkkibaacclhnaaGreatDoorWu
import Derived.Lib.OthersKept
import Derived.Test.YtmkkibaacclhnaaGreatDoorRc
import Derived.Test.YtmkkibaacclhnaaGreatDoorPd
import Derived.Laws.IdiomStrings
namespace Go.Proofs.YtmkkibaacclhnaaGreatDoor
open Go.RowKit
set_option maxRecDepth 100000
set_option maxHeartbeats 16000000
theorem row_no_iter {w:World} {e size n:Nat} {v:Value} {xs:List Value} {k pos:Nat} {s:ByteArray} (h:w.ownsRow 0 e size v n xs) (hk:w.heap[k]? =some (.stringIter s pos)):v.ownBlock≠some k:=by
 rcases h.2 with⟨h2,_⟩|⟨g,cap,cur,hv,h3,hg,h4⟩
 ·rw[h2];intro e;cases e
 ·rw[hv]
  intro e;have:g=k:=by simpa[Value.ownBlock]using e
  subst this;rw[hk]at hg;cases hg
structure TxAt (B:Nat) (w:World) (vi vb:Value) (nx ind:Int) (so:Bool) (op:Nat) (vo:Value) (pre s:List UInt8) (k pos:Nat) (wr:World):Prop where
 it:wr.heap[k]? =some (.stringIter (ofL s) pos)
 kw:w.heap.size≤k
 le:pos≤s.length
 u:uGo (s.length-pos) (s.drop pos)=true
 po:WPost B w vi vb nx ind so op vo (pre++(s.take pos).flatMap quoteB) wr
theorem TxAt.next {B:Nat} {w:World} {vi vb:Value} {nx ind:Int} {so:Bool} {op:Nat} {vo:Value} {pre s:List UInt8} {k pos:Nat} {wr:World} (h:TxAt B w vi vb nx ind so op vo pre s k pos wr) (hB:B<w.heap.size) (hp:pos<s.length) (hpre:pre.length+6*s.length≤99999990000):
 ∃n x,Utf8.decode (ofL s) pos=(x,n)∧1≤n∧pos+n≤s.length∧Calls Tryz.prog 72 #[.pointer (some ⟨B,0,none⟩),.int .i32 (x:Int)] (wr.iterAt k (ofL s) (pos+n)) fun e w'=>e=.returned (.tuple #[])∧TxAt B w vi vb nx ind so op vo pre s k (pos+n) w':=by
 obtain⟨h1,h2,h3,h4,vo1,hW,hF,hN⟩:=h;obtain⟨f,hf⟩:∃f,s.length-pos=f+1:=⟨s.length-pos-1,by omega⟩;have hdr:s.drop pos=s[pos]::s.drop (pos+1):=List.drop_eq_getElem_cons hp;rw[hf,hdr]at h4;obtain⟨n,x,hch,hu⟩:=u_char s pos f _ _ hdr h4;refine⟨n,x,hch.de,hch.n1,hch.le,?_⟩;have hkB:B≠k:=by omega
 have hkv:=row_no_iter hW.row h1
 have hW2:WAt B (wr.iterAt k (ofL s) (pos+n)) vi vb nx ind so op (.pointer (some ⟨B,6,none⟩)) vo1 (pre++(s.take pos).flatMap quoteB):=by
  refine⟨by rw[Lib.iterAt_other _ _ _ _ _ hkB];exact hW.blk,hW.adr,?_⟩;refine⟨hW.row.1,?_⟩;rcases hW.row.2 with h|⟨g,cap,cur,hv,g3,hg,g4⟩
  ·exact .inl h
  ·exact .inr ⟨g,cap,cur,hv,g3,by rw[Lib.iterAt_other _ _ _ _ _ (by rintro rfl;exact hkv (by rw[hv];rfl))];exact hg,g4⟩
 have hit2:=Lib.iterAt_heap wr k (ofL s) pos (pos+n) h1
 have hlen:(pre++(s.take pos).flatMap quoteB).length≤99999990000:=by
  have:=quote_len (s.take pos);rw[List.length_append];rw[List.length_take]at this;omega
 have hF2:Fr (fun i=>i=B∨vo.ownBlock=some i) w (wr.iterAt k (ofL s) (pos+n)):=hF.trans' (T:=fun i=>i=k) ⟨rfl,rfl,rfl,by rw[Lib.iterAt_size];exact Nat.le_refl _,fun i _ hi=>Lib.iterAt_other _ _ _ _ _ hi⟩ (fun i hi=>.inr (by omega));refine(writeCharacter_any B _ vi vb nx ind so op _ vo1 _ x hW2 hlen hch.va).mono ?_;rintro e w' ⟨he,hP⟩;have hP2:=WPost.trans hF2 hN hP;obtain⟨vo3,hW3,hF3,hN3⟩:=hP;refine⟨he,?_,h2,hch.le,?_,?_⟩
 ·rw[hF3.block k (by rw[Lib.iterAt_size];exact(Array.getElem?_eq_some_iff.1 h1).1) ?_]
  ·exact hit2
  ·rintro(h|h)
   ·exact hkB h.symm
   ·exact hkv h
 ·have hn1:=hch.n1
  rw[uGo_up _ f _ (by simp) (by simp;omega)];exact hu
 ·have e1:pre++(s.take pos).flatMap quoteB++quoteR x=pre++(s.take (pos+n)).flatMap quoteB:=by
   rw[hch.quote,List.append_assoc,←List.flatMap_append,List.take_add]
  rw[←e1];exact hP2
theorem TxAt.start {B:Nat} {w w1:World} {vi vb:Value} {nx ind:Int} {so:Bool} {op:Nat} {vo:Value} {pre s:List UInt8} (h:WPost B w vi vb nx ind so op vo pre w1) (hu:isU s=true):TxAt B w vi vb nx ind so op vo pre s w1.heap.size 0 (w1.iter (ofL s) 0):=by
 obtain⟨vo1,hW,hF,hN⟩:=h;refine⟨World.iter_heap w1 _ 0,hF.size,Nat.zero_le _,hu,vo1,?_,hF.alloc _,hN⟩;refine⟨(Below.heap_alloc w1 _ B (lt_of_block hW.blk)).trans hW.blk,hW.adr,?_⟩;simpa[World.iter]using hW.row.alloc (.stringIter (ofL s) 0)
theorem writeText_any (B:Nat) (w:World) (vi vb:Value) (nx ind:Int) (so:Bool) (op:Nat) (ad vo:Value) (bs s:List UInt8) (h:WAt B w vi vb nx ind so op ad vo bs) (hu:isU s=true) (hl:bs.length+6*s.length≤99999980000):
 Calls Tryz.prog 43 #[.pointer (some ⟨B,0,none⟩),.string (ofL s)] w fun e w'=>e=.returned (.tuple #[])∧WPost B w vi vb nx ind so op vo (bs++quoteL s) w':=by
 have hB:=lt_of_block h.blk;have hsz:=ofL_size s;have H1:=hid (show Calls Tryz.prog 44 #[.pointer (some ⟨B,6,none⟩),.int .u8 34] w _ from writeByte_any B w vi vb nx ind so op ad vo bs 34 h (by omega));have HU:=hid hu;have HB:=hid hB;clear h hu hB;go_enter Tryz.func43,Tryz.ntmps43
 go_wp2_with fail
 refine Calls.mono H1.out ?_;rintro e w1 ⟨rfl,hP⟩;have HT:=hid (TxAt.start hP HU.out);clear hP H1;go_wp2
 go_loopw [] (fun wr=>∃pos:Nat,Hid (TxAt B w vi vb nx ind so op vo (bs++[34]) s w1.heap.size pos wr)) (fun wr=>s.length-wr.iterPos w1.heap.size)
 case atStart=>exact⟨0,HT⟩
 case round=>
  clear HT;obtain⟨pos,hT⟩:=hrel;have hit:=hT.out.it;have HIT:=hid hit;by_cases hp:pos<s.length
  ·obtain⟨n,x,hde,hn1,hle,hcall⟩:=hT.out.next HB.out hp (by simp;omega)
   have hnx:∀ty,(Instr.next (.pointer (some ⟨w1.heap.size,0,none⟩)) true ty).run Tryz.prog wr=.ok (.tuple #[.bool true,.int .i64 (pos:Int),.int .i32 (x:Int)]) (wr.iterAt w1.heap.size (ofL s) (pos+n)):=fun ty=>by
    have:=Lib.run_next_any_at (P:=Tryz.prog) wr w1.heap.size (ofL s) pos ty hit (by rw[hsz];exact hp);rw[hde]at this;exact this
   have HC:=hid hcall;have HNN:=hid (And.intro hn1 hle);clear hcall hde hn1 hle hit hT
   go_wp2_with fail
   refine Calls.mono HC.out ?_;rintro e w2 ⟨rfl,hT2⟩;have HT2:=hid hT2;clear hT2;go_wp2;go_roundw
   case rel=>exact⟨pos+n,HT2⟩
   case measure=>
    have:=HNN.out;simp only[World.iterPos,HT2.out.it,HIT.out];omega
  ·have hpe:pos=s.length:=by have:=hT.out.le;omega
   subst hpe;have hnx:∀ty,(Instr.next (.pointer (some ⟨w1.heap.size,0,none⟩)) true ty).run Tryz.prog wr=_:=fun ty=>Lib.run_next_end_at (P:=Tryz.prog) wr w1.heap.size (ofL s) s.length ty hit (by rw[hsz];omega)
   obtain⟨vo1,hW1,hF1,hN1⟩:=hT.out.po;rw[List.take_length]at hW1;have K1:=hid (And.intro hF1 hN1);have H2:=hid (show Calls Tryz.prog 44 #[.pointer (some ⟨B,6,none⟩),.int .u8 34] wr _ from writeByte_any B wr vi vb nx ind so op _ vo1 _ 34 hW1 (by have:=quote_len s;rw[List.length_append,List.length_append,List.length_singleton];omega));clear hW1 hF1 hN1 hT hit
   go_wp2_with fail
   refine Calls.mono H2.out ?_;rintro e w2 ⟨rfl,hP⟩;have KP:=hid (WPost.trans K1.out.1 K1.out.2 hP);clear hP;go_wp2;go_end0;refine⟨rfl,?_⟩;have:=KP.out;simpa[quoteL]using this
def headL (indent:Int) (key:List UInt8):List UInt8:=quoteL key++58::(if indent= -1 then[]else[32])
theorem WPost.keepI {B:Nat} {w w':World} {vi vb:Value} {nx ind:Int} {so:Bool} {op:Nat} {ad vo V:Value} {bs bs':List UInt8} {l:List Im} (h:WPost B w vi vb nx ind so op vo bs' w') (hW:WAt B w vi vb nx ind so op ad vo bs) (hI:ItAt w V l):ItAt w' V l:=by
 obtain⟨vo',h1,h2,h3⟩:=h;refine hI.fr h2 (fun i hi=>?_);rintro(h|h)
 ·subst h
  exact rowT hI hW.blk (by decide) hi
 ·rcases hI.2 with⟨q,_⟩|⟨g,cap,cur,hv,_,hg,_⟩
  ·rw[q]at hi;cases hi
  ·rw[hv]at hi
   have hgi:g=i:=by simpa[Value.ownBlock]using hi
   subst hgi;exact rowT hW.row hg (by decide) h
theorem writeKey_any (B:Nat) (w:World) (vi vb:Value) (nx ind:Int) (so:Bool) (op:Nat) (ad vo:Value) (bs:List UInt8) (l:List Im) (key:Nat) (x:Im) (h:WAt B w vi vb nx ind so op ad vo bs) (hI:ItAt w vi l) (hx:l[key]? =some x) (hu:isU x.s=true) (hl:bs.length+6*x.s.length≤99999970000) (hll:l.length≤10000000):
 Calls Tryz.prog 75 #[.pointer (some ⟨B,0,none⟩),.int .i64 (key:Int)] w fun e w'=>e=.returned (.tuple #[])∧WPost B w vi vb nx ind so op vo (bs++headL ind x.s) w':=by
 obtain⟨g,m,cap,rfl⟩:=row_shape3 hI;obtain rfl:=slice_len hI;have hkl:key<l.length:=(List.getElem?_eq_some_iff.1 hx).1;obtain⟨gi,rfl⟩:=row_some hI (by omega);have k0:=blk_cell h.blk (show(wCells (.slice (some ⟨gi,0,none⟩) l.length cap) vb nx ind so op ad vo)[0]? =some (.slice (some ⟨gi,0,none⟩) l.length cap)from rfl);have c3:=rowCell hI (key*4+3) (.string (ofL x.s)) (by rw[imsV_get l key 3 x hx (by omega)];rfl);have hz1:(key:Int)<(l.length:Int):=by omega
 have hql:=quote_len x.s;have H1:=hid (writeText_any B w _ vb nx ind so op ad vo bs x.s h hu (by omega));have hlen:(bs++quoteL x.s).length≤99999980000:=by unfold quoteL;simp only[List.length_append,List.length_cons,List.length_nil];omega
 have HL:=hid hlen;obtain⟨ks,hks⟩:∃ks,x.s=ks:=⟨_,rfl⟩;rw[hks]at H1 c3 HL ⊢;unfold headL;obtain⟨Q,hQ⟩:∃Q,quoteL ks=Q:=⟨_,rfl⟩;rw[hQ]at H1 HL ⊢;have H2:=hid (fun (w:World) (vo:Value) (bs:List UInt8) (c:UInt8) (h:WAt B w (.slice (some ⟨gi,0,none⟩) l.length cap) vb nx ind so op (.pointer (some ⟨B,6,none⟩)) vo bs) (hl:bs.length≤100000000000)=>writeByte_any B w _ vb nx ind so op _ vo bs c h hl);clear h hI hx hu hlen hks hQ hql hl;by_cases hi1:ind= -1
 ·subst hi1
  rw[if_pos rfl];go_enter Tryz.func75,Tryz.ntmps75
  go_wp2_with fail
  refine Calls.mono H1.out ?_;rintro e w1 ⟨rfl,vo1,hW1,hF1,hN1⟩;have K1:=hid (And.intro hF1 hN1);have HB1:=hid (show Calls Tryz.prog 44 #[.pointer (some ⟨B,6,none⟩),.int .u8 58] w1 _ from H2.out w1 vo1 _ 58 hW1 (by have:=HL.out;omega));clear hW1 hF1 hN1
  go_wp2_with fail
  refine Calls.mono HB1.out ?_;rintro e w2 ⟨rfl,vo2,hW2,hF2,hN2⟩;have KP:=hid (WPost.trans K1.out.1 K1.out.2 ⟨vo2,hW2,hF2,hN2⟩);have i3:=blk_cell hW2.blk (show(wCells (.slice (some ⟨gi,0,none⟩) l.length cap) vb nx (-1) so op (.pointer (some ⟨B,6,none⟩)) vo2)[3]? =some (.int .i64 (-1))from rfl);clear hW2 hF2 hN2;go_wp2;go_end0;exact⟨rfl,by simpa using KP.out⟩
 ·rw[if_neg hi1]
  have hi2:(ind== -1)=false:=beq_eq_false_iff_ne.2 hi1;have hi3:(ind != -1)=true:=by simpa using hi1
  clear hi1;go_enter Tryz.func75,Tryz.ntmps75
  go_wp2_with fail
  refine Calls.mono H1.out ?_;rintro e w1 ⟨rfl,vo1,hW1,hF1,hN1⟩;have K1:=hid (And.intro hF1 hN1);have HB1:=hid (show Calls Tryz.prog 44 #[.pointer (some ⟨B,6,none⟩),.int .u8 58] w1 _ from H2.out w1 vo1 _ 58 hW1 (by have:=HL.out;omega));clear hW1 hF1 hN1
  go_wp2_with fail
  refine Calls.mono HB1.out ?_;rintro e w2 ⟨rfl,vo2,hW2,hF2,hN2⟩;have KP:=hid (WPost.trans K1.out.1 K1.out.2 ⟨vo2,hW2,hF2,hN2⟩);have i3:=blk_cell hW2.blk (show(wCells (.slice (some ⟨gi,0,none⟩) l.length cap) vb nx ind so op (.pointer (some ⟨B,6,none⟩)) vo2)[3]? =some (.int .i64 ind)from rfl);clear hW2 hF2 hN2;obtain⟨vo3,hW3,hF3,hN3⟩:=KP.out;have K3:=hid (And.intro hF3 hN3);have HB3:=hid (show Calls Tryz.prog 44 #[.pointer (some ⟨B,6,none⟩),.int .u8 32] w2 _ from H2.out w2 vo3 _ 32 hW3 (by have:=HL.out;simp only[List.length_append,List.length_singleton]at this ⊢;omega));clear hW3 hF3 hN3 KP K1 HB1
  go_wp2_with fail
  refine Calls.mono HB3.out ?_;rintro e w4 ⟨rfl,hP⟩;have KQ:=hid (WPost.trans K3.out.1 K3.out.2 hP);clear hP;go_wp2;go_end0;exact⟨rfl,by simpa using KQ.out⟩
theorem calls_ex {P:Program} {f:FuncId} {args:Array Value} {w:World} {R:Ending→World→Prop} (h:Calls P f args w R):∃e w',R e w':=by
 obtain⟨e,w',_,hR,_⟩:=h [];exact⟨e,w',hR⟩
theorem tokV_near {t:Tk} {r k:Nat} (hE:Ends t.st) (hok:TkOk t k) (h:NearV t.D t.at r):tokV t=parseV t.neg r:=by
 unfold tokV;rw[if_pos hE,nearF_eq hok.digs hok.head h]
theorem tokV_no {t:Tk} (hE:¬Ends t.st):tokV t=(0,3):=by
 unfold tokV;rw[if_neg hE]
theorem run_okk {l:List UInt8} {t:Tk} (h:run t0 l=some t):TkOk t l.length∧PwZero t:=by
 have key:∀(l:List UInt8) (t t':Tk) (k:Nat),TkOk t k→PwZero t→run t l=some t'→TkOk t' (k+l.length)∧PwZero t':=by
  intro l
  induction l with
  |nil=>
   intro t t' k h1 h2 h3;simp only[run,Option.some.injEq]at h3;subst h3;exact⟨h1,h2⟩
  |cons c l ih=>
   intro t t' k h1 h2 h3;rw[run]at h3;cases hn:nxt t c with
   |none=>rw[hn]at h3;cases h3
   |some t1=>
    rw[hn]at h3;obtain⟨a,b⟩:=nxt_ok h1 h2 hn;have:=ih t1 t' (k+1) a b h3;rw[List.length_cons,show k+(l.length+1)=k+1+l.length by omega];exact this
 have:=key l t0 t 0 t0_ok t0_pw h;rw[Nat.zero_add]at this;exact this
theorem oor_near {D:List Nat} {P:Int} {r:Nat} (h:NearV D P r):oor D P=decide (9218868437227405312≤r):=by
 cases ho:oor D P with
 |true=>rw[h.1 ho];rfl
 |false=>
  have:=(h.2 ho).2;rw[decide_eq_false (by omega)]
theorem parseV_err (neg:Bool) (r:Nat):((parseV neg r).2=6↔9218868437227405312≤r)∧((parseV neg r).2=0↔¬9218868437227405312≤r):=by
 unfold parseV;by_cases h:9218868437227405312≤r
 ·rw[if_pos h];simp[h]
 ·rw[if_neg h];simp[h]
def strip (l:List UInt8):List UInt8:=(l.reverse.dropWhile (fun c=>decide (c=48))).reverse
theorem strip_zero (m:List UInt8):strip (m++[48])=strip m:=by simp[strip]
theorem strip_no (m:List UInt8) (c:UInt8) (h:c≠48):strip (m++[c])=m++[c]:=by simp[strip,h]
theorem dgs_len1 (n:Nat) (h:n<10):(dgs n).length=1:=by rw[dgs_lt h];rfl
def upR:List UInt8→List UInt8
 |[]=>[49]
 |c::r=>if c.toNat<57 then UInt8.ofNat (c.toNat+1)::r else 48::upR r
def upB (l:List UInt8):List UInt8:=(upR l.reverse).reverse
theorem up_nil:upB []=[49]:=rfl
theorem up_small (p:List UInt8) (c:UInt8) (h:c.toNat<57):upB (p++[c])=p++[UInt8.ofNat (c.toNat+1)]:=by simp[upB,upR,h]
theorem up_nine (p:List UInt8) (c:UInt8) (h:¬c.toNat<57):upB (p++[c])=upB p++[48]:=by simp[upB,upR,h]
theorem up_dgs (M:Nat):upB (dgs M)=dgs (M+1):=by
 induction M using Nat.strongRecOn with
 |_ M ih=>
  by_cases h:M<10
  ·rw[dgs_lt h,show[UInt8.ofNat (48+M)]=[]++[UInt8.ofNat (48+M)]from rfl]
   by_cases h9:M<9
   ·rw[up_small _ _ (by rw[ofNat_byte M h];omega),ofNat_byte M h,dgs_lt (by omega)];rfl
   ·obtain rfl:M=9:=by omega
    rw[up_nine _ _ (by decide),up_nil,dgs_ge (by omega),dgs_lt (by omega)];rfl
  ·rw[dgs_ge h]
   have hm:=ofNat_byte (M % 10) (by omega);by_cases h9:M % 10<9
   ·rw[up_small _ _ (by rw[hm];omega),hm,dgs_ge (n:=M+1) (by omega),show(M+1)/10=M/10 by omega,show(M+1) % 10=M % 10+1 by omega];rfl
   ·rw[up_nine _ _ (by rw[hm];omega),ih (M/10) (by omega),dgs_ge (n:=M+1) (by omega),show(M+1)/10=M/10+1 by omega,show(M+1) % 10=0 by omega];rfl
def BytesAt (w:World) (g:Nat) (l:List UInt8):Prop:=∀j,(h:j<l.length)→w.cell? ⟨g,j,none⟩=some (.int .u8 ((l[j].toNat:Nat):Int))∧w.frozen? ⟨g,j,none⟩=false
theorem BytesAt.set {w:World} {g:Nat} {l l':List UInt8} (h:BytesAt w g l) (i:Nat) (c:UInt8) (hl:l'=l.set i c):BytesAt (w.setCell ⟨g,i,none⟩ (.int .u8 ((c.toNat:Nat):Int))) g l':=by
 subst hl;intro j hj;have hj':j<l.length:=by simpa using hj
 obtain⟨h1,h2⟩:=h j hj';refine⟨?_,by rw[World.frozen?_setCell];exact h2⟩;by_cases e:i=j
 ·subst e
  rw[World.cell?_setCell_same (h:=h1)];simp
 ·rw[World.cell?_setCell_other (h:=fun hh=>e (congrArg Addr.off hh)),h1]
  simp[e]
theorem BytesAt.back {w:World} {g cap n:Nat} {l:List UInt8} (h:BytesAt w g l) (hn:l.length=n):(convert 65 9 (.slice (some ⟨g,0,none⟩) n cap)).run Tryz.prog w=.ok (.string (ofL l)) w:=by
 subst hn
 exact run_convert_bytes_back (P:=Tryz.prog) w 65 9 5 ⟨g,0,none⟩ cap l Tryz.underlying65 Tryz.underlying5 Tryz.underlying9 (fun j hj=>by
  have:=(h j hj).1
  cases j<;>simpa[Addr.add]using this)
theorem bytes_start (w:World) (l:List UInt8) (cap:Nat) (n m:Nat) (hn:l.length≤n):BytesAt (w.drew.alloc (.cells (bytesRow (ofL l) cap) 5 (n,m))) w.heap.size l:=by
 have hh:(w.drew.alloc (.cells (bytesRow (ofL l) cap) 5 (n,m))).heap[w.heap.size]? =some (.cells (bytesRow (ofL l) cap) 5 (n,m)):=heap_alloc_new w.drew _;intro j hj;constructor
 ·simp only[World.cell?,hh]
  simp[bytesRow,ofL,Array.getElem?_append,hj]
 ·simp only[World.frozen?,hh]
  simp;omega
end Go.Proofs.YtmkkibaacclhnaaGreatDoor
