/-
  A step of the walk, the part named Ws. No theorem of the row.
-/
import Derived.Test.YtmkkibaacclhnaaGreatDoorWa
import Derived.Lib.Bytealg
import Derived.Laws.Externs
import Derived.Test.YtmkkibaacclhnaaGreatDoorPi
import Derived.Lib.Builder
import Derived.Test.YtmkkibaacclhnaaGreatDoorPd
import Derived.Lib.AppendStr
namespace Go.Proofs.YtmkkibaacclhnaaGreatDoor
open Go.RowKit
set_option maxRecDepth 100000
set_option maxHeartbeats 16000000
theorem cut_at (l:List Nat) (k:Nat) (h:k≤l.length):∃a b,l=a++b∧a.length=k:=⟨l.take k,l.drop k,(List.take_append_drop k l).symm,by simp[h]⟩
def RotAt (w0 w:World) (blk n cap:Nat) (X A B Y:List Nat) (m i j:Nat):Prop:=
 ∃P A' B' S,A'.length=i∧B'.length=j∧0<i∧0<j∧X.length+P.length+i=m∧B++A=P++B'++A'++S∧DR w0 w blk n cap (X++P++A'++B'++S++Y)
theorem RotAt.bound {w0 w:World} {blk n cap m i j:Nat} {X A B Y:List Nat} (h:RotAt w0 w blk n cap X A B Y m i j):0<i∧0<j∧i≤m∧m+j≤n:=by
 obtain⟨P,A',B',S,h1,h2,h3,h4,h5,h6,h7⟩:=h;have:=h7.len;simp only[List.length_append]at this;omega
theorem RotAt.more {w0 w:World} {blk n cap m i j:Nat} {X A B Y:List Nat} {g:Value} (h:RotAt w0 w blk n cap X A B Y m i j) (hij:j<i) (hn:n≤10000000):
 Calls Tryz.prog 224 #[.slice (some ⟨blk,0,none⟩) n cap,.int .i64 ((m-i:Nat):Int),.int .i64 (m:Int),.int .i64 (j:Int),g] w fun e w'=>e=.returned (.tuple #[])∧RotAt w0 w' blk n cap X A B Y m (i-j) j:=by
 obtain⟨P,A',B',S,h1,h2,h3,h4,h5,h6,h7⟩:=h;obtain⟨A1,A2,rfl,hA1⟩:=cut_at A' j (by omega);rw[List.length_append]at h1;have hd:DR w0 w blk n cap ((X++P)++A1++A2++B'++(S++Y)):=by simpa using h7
 have:=swapRange_any w0 w blk n cap j (X++P) A1 A2 B' (S++Y) g hd hA1 h2 hn;rw[List.length_append,show X.length+P.length=m-i by omega,show m-i+j+A2.length=m by omega]at this;refine this.mono ?_;rintro e w' ⟨he,hd'⟩;refine⟨he,P++B',A2,A1,S,by omega,hA1,by omega,h4,by rw[List.length_append];omega,by simpa using h6,by simpa using hd'⟩
theorem RotAt.less {w0 w:World} {blk n cap m i j:Nat} {X A B Y:List Nat} {g:Value} (h:RotAt w0 w blk n cap X A B Y m i j) (hij:i<j) (hn:n≤10000000):
 Calls Tryz.prog 224 #[.slice (some ⟨blk,0,none⟩) n cap,.int .i64 ((m-i:Nat):Int),.int .i64 ((m+j-i:Nat):Int),.int .i64 (i:Int),g] w fun e w'=>e=.returned (.tuple #[])∧RotAt w0 w' blk n cap X A B Y m i (j-i):=by
 obtain⟨P,A',B',S,h1,h2,h3,h4,h5,h6,h7⟩:=h;obtain⟨B1,B2,rfl,hB1⟩:=cut_at B' (j-i) (by omega);rw[List.length_append]at h2;have hd:DR w0 w blk n cap ((X++P)++A'++B1++B2++(S++Y)):=by simpa using h7
 have:=swapRange_any w0 w blk n cap i (X++P) A' B1 B2 (S++Y) g hd h1 (by omega) hn;rw[List.length_append,show X.length+P.length=m-i by omega,show m-i+i+B1.length=m+j-i by omega]at this;refine this.mono ?_;rintro e w' ⟨he,hd'⟩;refine⟨he,P,B2,B1,A'++S,by omega,hB1,h3,by omega,h5,by simpa using h6,by simpa using hd'⟩
theorem RotAt.last {w0 w:World} {blk n cap m i:Nat} {X A B Y:List Nat} {g:Value} (h:RotAt w0 w blk n cap X A B Y m i i) (hn:n≤10000000):
 Calls Tryz.prog 224 #[.slice (some ⟨blk,0,none⟩) n cap,.int .i64 ((m-i:Nat):Int),.int .i64 (m:Int),.int .i64 (i:Int),g] w fun e w'=>e=.returned (.tuple #[])∧DR w0 w' blk n cap (X++B++A++Y):=by
 obtain⟨P,A',B',S,h1,h2,h3,h4,h5,h6,h7⟩:=h;have hd:DR w0 w blk n cap ((X++P)++A'++[]++B'++(S++Y)):=by simpa using h7
 have:=swapRange_any w0 w blk n cap i (X++P) A' [] B' (S++Y) g hd h1 h2 hn;rw[List.length_append,show X.length+P.length=m-i by omega,show m-i+i+([]:List Nat).length=m by simp;omega]at this;refine this.mono ?_;rintro e w' ⟨he,hd'⟩;refine⟨he,?_⟩;rw[List.append_assoc X B A,h6];simpa using hd'
theorem rotate_any (w0 w:World) (blk n cap m b:Nat) (X A B Y:List Nat) (g:Value) (h:DR w0 w blk n cap (X++A++B++Y)) (hA:0<A.length) (hB:0<B.length) (hm:X.length+A.length=m) (hb:m+B.length=b) (hn:n≤10000000):
 Calls Tryz.prog 219 #[.slice (some ⟨blk,0,none⟩) n cap,.int .i64 (X.length:Int),.int .i64 (m:Int),.int .i64 (b:Int),g] w fun e w'=>e=.returned (.tuple #[])∧DR w0 w' blk n cap (X++B++A++Y):=by
 have H0:RotAt w0 w blk n cap X A B Y m A.length B.length:=⟨[],A,B,[],rfl,rfl,hA,hB,by simpa using hm,by simp,by simpa using h⟩;have hlen:=h.len;simp only[List.length_append]at hlen;have e1:(m:Int)-(X.length:Int)=(A.length:Int):=by omega
 have e2:(b:Int)-(m:Int)=(B.length:Int):=by omega
 have HM:=hid (fun (i j:Nat) (w':World) (h:RotAt w0 w' blk n cap X A B Y m i j) (hij:j<i)=>h.more (g:=g) hij hn);have HL:=hid (fun (i j:Nat) (w':World) (h:RotAt w0 w' blk n cap X A B Y m i j) (hij:i<j)=>h.less (g:=g) hij hn);have HE:=hid (fun (i:Nat) (w':World) (h:RotAt w0 w' blk n cap X A B Y m i i)=>h.last (g:=g) hn);have HR:=hid H0;have hmn:m≤10000000:=by omega
 have hbn:b≤10000000:=by omega
 generalize hx:X.length=x at*;generalize A.length=al at*;generalize B.length=bl at*;have HX:=hid hx;clear h hA hB hm hb hlen H0 hx;go_enter Tryz.func219,Tryz.ntmps219;go_wp2
 go_loopw [10,11] (fun s t wr=>∃(i j:Nat),s=.int .i64 (i:Int)∧t=.int .i64 (j:Int)∧Hid (RotAt w0 wr blk n cap X A B Y m i j)) (fun s t _=>(intOf s).toNat+(intOf t).toNat)
 case atStart=>exact⟨al,bl,rfl,rfl,HR⟩
 case round=>
  clear HR e1 e2;obtain⟨i,j,rfl,rfl,hR⟩:=hrel;obtain⟨hi0,hj0,him,hjn⟩:=hR.out.bound;have e1:(m:Int)-(i:Int)=((m-i:Nat):Int):=by omega
  have e2:(m:Int)+(j:Int)-(i:Int)=((m+j-i:Nat):Int):=by omega
  have w1:IntKind.i64.wrap ((m:Int)+(j:Int))=(m:Int)+(j:Int):=IntWalk.i64_in _ (by omega);by_cases hij:i=j
  ·subst hij
   have h5:=HE.out _ _ hR.out;generalize m-i=p at*;have H5:=hid h5;clear h5
   go_wp2_with (first|(go_at_call 224;refine Calls.mono H5.out ?_;rintro x w2 ⟨rfl,hd⟩;have HD:=hid hd;clear hd)|fail)
   go_end0;exact⟨rfl,HD.out⟩
  ·by_cases hlt:j<i
   ·have h5:=HM.out _ _ _ hR.out hlt
    have e3:(i:Int)-(j:Int)=((i-j:Nat):Int):=by omega
    have hne:¬((i:Int)=(j:Int)):=by omega
    have hlz:(j:Int)<(i:Int):=by omega
    have hms:i-j+j<i+j:=by omega
    generalize i-j=d at*;generalize m-i=p at*;have H5:=hid h5;have HMS:=hid hms;clear h5 hms
    go_wp2_with (first|(go_at_call 224;refine Calls.mono H5.out ?_;rintro x w2 ⟨rfl,hd⟩;have HD:=hid hd;clear hd)|fail)
    go_roundw
    case rel=>exact⟨d,j,rfl,rfl,HD⟩
    case measure=>have:=HMS.out;simp[intOf];omega
   ·have hgt:i<j:=by omega
    have h5:=HL.out _ _ _ hR.out hgt;have e3:(j:Int)-(i:Int)=((j-i:Nat):Int):=by omega
    have hne:¬((i:Int)=(j:Int)):=by omega
    have hlz:¬((j:Int)<(i:Int)):=by omega
    have hms:i+(j-i)<i+j:=by omega
    generalize j-i=d at*;generalize m+j-i=q at*;generalize m-i=p at*;have H5:=hid h5;have HMS:=hid hms;clear h5 hms
    go_wp2_with (first|(go_at_call 224;refine Calls.mono H5.out ?_;rintro x w2 ⟨rfl,hd⟩;have HD:=hid hd;clear hd)|fail)
    go_roundw
    case rel=>exact⟨i,d,rfl,rfl,HD⟩
    case measure=>have:=HMS.out;simp[intOf];omega
theorem compareString_any (a b:List UInt8) (w:World):
 Calls Tryz.prog 174 #[.string (ofL a),.string (ofL b)] w fun e w'=>e=.returned (.int .i64 (Lib.compareBytes a b))∧w'=w:=by
 go_enter Tryz.func174,Tryz.ntmps174;go_wp2;rw[run_callFunc_extern Tryz.func204 (by kernel_rfl) (by kernel_rfl) (by kernel_rfl) (e:=Extern.BytealgCompare.compare) (by kernel_rfl),Lib.run_compareString];simp only[Result.andThen];rw[Oper.upon_value];go_wp2;go_ret;exact⟨rfl,rfl⟩
theorem compare_any' (a b:List UInt8) (w:World):
 Calls Tryz.prog 130 #[.string (ofL a),.string (ofL b)] w fun e w'=>e=.returned (.int .i64 (Lib.compareBytes a b))∧w'=w:=by
 go_enter Tryz.func130,Tryz.ntmps130
 go_wp2_with (first|(go_at_call 174;refine Calls.mono (compareString_any a b _) ?_;rintro x w2 ⟨rfl,rfl⟩)|fail)
 go_ret;exact⟨rfl,rfl⟩
structure Im where
 k:Int
 n:Int
 b:Nat
 s:List UInt8
def imC (x:Im):List Value:=[.int .i64 x.k,.int .i64 x.n,.int .u64 (x.b:Int),.string (ofL x.s)]
def imsV (l:List Im):List Value:=l.flatMap imC
theorem imsV_get (l:List Im) (i j:Nat) (x:Im) (hi:l[i]? =some x) (hj:j<4):(imsV l)[i*4+j]? =(imC x)[j]? :=by
 induction l generalizing i with
 |nil=>simp at hi
 |cons y l ih=>
  have h:imsV (y::l)=imC y++imsV l:=rfl;have hl:(imC y).length=4:=rfl;rw[h];cases i with
  |zero=>
   simp at hi;subst hi;rw[List.getElem?_append_left (by omega)];simp
  |succ i=>
   rw[List.getElem?_append_right (by omega),hl,show(i+1)*4+j-4=i*4+j by omega];exact ih i (by simpa using hi)
def ItAt (w:World) (V:Value) (l:List Im):Prop:=w.ownsRow 0 29 4 V l.length (imsV l)
theorem ItAt.fr {w w':World} {V:Value} {l:List Im} {S:Nat→Prop} (h:ItAt w V l) (hF:Fr S w w') (hS:∀i,V.ownBlock=some i→¬S i):ItAt w' V l:=rowFr h hF hS
def keyAt (l:List Im) (i:Nat):List UInt8:=((l[i]?).map (·.s)).getD []
theorem cmp_any (w:World) (bx a b:Nat) (V:Value) (l:List Im) (hb:w.heap[bx]? =some (.cells #[V] 22 (0,0))) (hI:ItAt w V l) (ha:a<l.length) (hbl:b<l.length) (hl:l.length≤10000000):
 Calls Tryz.prog 129 #[.int .i64 (a:Int),.int .i64 (b:Int),.pointer (some ⟨bx,0,none⟩)] w fun e w'=>e=.returned (.int .i64 (Lib.compareBytes (keyAt l a) (keyAt l b)))∧∃k,w'=w.drewN k:=by
 obtain⟨g,m,cap,rfl⟩:=row_shape3 hI;obtain rfl:=slice_len hI;obtain⟨gi,rfl⟩:=row_some hI (by omega);obtain⟨x,hx⟩:∃x,l[a]? =some x:=⟨l[a],List.getElem?_eq_getElem ha⟩;obtain⟨y,hy⟩:∃y,l[b]? =some y:=⟨l[b],List.getElem?_eq_getElem hbl⟩;have c0:=blk_cell hb (show(#[Value.slice (some ⟨gi,0,none⟩) l.length cap])[0]? =some (.slice (some ⟨gi,0,none⟩) l.length cap)from rfl);have c1:=rowCell hI (a*4+3) (.string (ofL x.s)) (by rw[imsV_get l a 3 x hx (by omega)];rfl);have c2:=rowCell hI (b*4+3) (.string (ofL y.s)) (by rw[imsV_get l b 3 y hy (by omega)];rfl);have hz1:(a:Int)<(l.length:Int):=by omega
 have hz2:(b:Int)<(l.length:Int):=by omega
 have HX:=hid (fun w=>compare_any' x.s y.s w);have e1:keyAt l a=x.s:=by unfold keyAt;rw[hx];rfl
 have e2:keyAt l b=y.s:=by unfold keyAt;rw[hy];rfl
 rw[e1,e2];generalize Lib.compareBytes x.s y.s=R at*;generalize x.s=xs at*;generalize y.s=ys at*;clear hb hI hx hy e1 e2;go_enter Tryz.func129,Tryz.ntmps129;go_wp2;go_quiet ((go_at_call 130;exact Calls.quiet_of_same (HX.out _)));go_wp2;go_ret;exact⟨rfl,_,rfl⟩
def wCells (vi vb:Value) (nx ind:Int) (so:Bool) (op:Nat) (ad vo:Value):Array Value:=#[vi,vb,.int .i64 nx,.int .i64 ind,.bool so,.int .i64 (op:Int),ad,vo]
structure WAt (B:Nat) (w:World) (vi vb:Value) (nx ind:Int) (so:Bool) (op:Nat) (ad vo:Value) (bs:List UInt8):Prop where
 blk:w.heap[B]? =some (.cells (wCells vi vb nx ind so op ad vo) 69 (0,0))
 adr:ad=.pointer none∨ad=.pointer (some ⟨B,6,none⟩)
 row:w.ownsRow 0 5 1 vo bs.length (us bs)
theorem Tryz.under64B:Tryz.prog.underlying 64=some (.pointer 67):=by kernel_rfl
theorem Tryz.under165B:Tryz.prog.underlying 165=some .unsafePointer:=by kernel_rfl
theorem Tryz.size67B:(Tryz.prog.info? 67).map (·.size)=some 2:=by kernel_rfl
theorem Tryz.lies67B:liesAt Tryz.prog Tryz.prog.depth 69 (8/Tryz.prog.cellsOf 69) 6 67 1=true:=by kernel_rfl
theorem copyCheck_any (B:Nat) (w:World) (vi vb:Value) (nx ind:Int) (so:Bool) (op:Nat) (ad vo:Value) (bs:List UInt8) (h:WAt B w vi vb nx ind so op ad vo bs):
 Calls Tryz.prog 71 #[.pointer (some ⟨B,6,none⟩)] w fun e w'=>e=.returned (.tuple #[])∧WAt B w' vi vb nx ind so op (.pointer (some ⟨B,6,none⟩)) vo bs∧Fr (fun i=>i=B) w w':=by
 have k6:=blk_cell h.blk (show(wCells vi vb nx ind so op ad vo)[6]? =some ad from rfl);have f6:=blk_free (j:=6) h.blk;rcases h.adr with hA|hA
 ·subst hA
  have H:=hid h;have hs:=heap_setCell_same w B 6 _ 69 (.pointer (some ⟨B,6,none⟩)) h.blk;have c6:(w.setCell ⟨B,6,none⟩ (.pointer (some ⟨B,6,none⟩))).cell? ⟨B,6,none⟩=some (.pointer (some ⟨B,6,none⟩)):=blk_cell hs rfl;have HS:=hid (show WAt B (w.setCell ⟨B,6,none⟩ (.pointer (some ⟨B,6,none⟩))) vi vb nx ind so op (.pointer (some ⟨B,6,none⟩)) vo bs from⟨hs,.inr rfl,rowSetOther h.row (rowT h.row h.blk (by decide)) _⟩);have HF:=hid ((Fr.refl (fun i=>i=B) w).setCell (p:=⟨B,6,none⟩) (.inl rfl) (.pointer (some ⟨B,6,none⟩)));have hsh:w.shape? B=some (69,8):=by simp[World.shape?,h.blk,wCells]
  clear h hs;obtain⟨j,hj,hjs⟩:=Option.map_eq_some_iff.1 Tryz.size67B;go_enter Tryz.func71,Tryz.ntmps71;go_wp2;rw[Lib.run_to_unsafe w ⟨B,6,none⟩ Tryz.under64B Tryz.under165B hj (by rw[hjs];decide) hsh (show 6<8 by omega)];simp only[Result.andThen];rw[Oper.upon_value];go_wp2;rw[run_callFunc_extern Tryz.func125 (by kernel_rfl) (by kernel_rfl) (by kernel_rfl) (e:=Extern.AbiNoEscape.same) (by kernel_rfl)];rw[Lib.run_noEscape];simp only[Result.andThen];rw[Oper.upon_value];go_wp2;rw[Lib.run_from_unsafe w ⟨B,6,none⟩ Tryz.under165B Tryz.under64B hj hsh Tryz.lies67B];simp only[Result.andThen];rw[Oper.upon_value];go_wp2;go_end0;exact⟨rfl,HS.out,HF.out⟩
 ·subst hA
  have H:=hid h;have HF:=hid (Fr.refl (fun i=>i=B) w);clear h;obtain⟨j,hj,hjs⟩:=Option.map_eq_some_iff.1 Tryz.size67B;go_enter Tryz.func71,Tryz.ntmps71;go_wp2;rw[Lib.run_neq_ptr_same _ ⟨B,6,none⟩ Tryz.under64B hj];simp only[Result.andThen];rw[Oper.upon_value];go_wp2;go_end0;exact⟨rfl,H.out,HF.out⟩
theorem WAt.put {B:Nat} {W w1:World} {vi vb:Value} {nx ind:Int} {so:Bool} {op:Nat} {ad vo v':Value} {bs bs':List UInt8} (h:WAt B W vi vb nx ind so op ad vo bs) (hb:w1.heap[B]? =W.heap[B]?) (hown:w1.ownsRow 0 5 1 v' bs'.length (us bs')):
 WAt B (w1.setCell ⟨B,7,none⟩ v') vi vb nx ind so op ad v' bs':=by
 have hb1:=hb.trans h.blk;exact⟨heap_setCell_same w1 B 7 _ 69 v' hb1,h.adr,rowSetOther hown (rowT hown hb1 (by decide)) _⟩
def WPost (B:Nat) (w:World) (vi vb:Value) (nx ind:Int) (so:Bool) (op:Nat) (vo:Value) (bs:List UInt8) (w':World):Prop:=
 ∃vo',WAt B w' vi vb nx ind so op (.pointer (some ⟨B,6,none⟩)) vo' bs∧Fr (fun i=>i=B∨vo.ownBlock=some i) w w'∧∀g,vo'.ownBlock=some g→vo.ownBlock=some g∨w.heap.size≤g
theorem WPost.of {B:Nat} {w W w1:World} {vi vb:Value} {nx ind:Int} {so:Bool} {op:Nat} {vo v':Value} {bs bs':List UInt8} (h:WAt B W vi vb nx ind so op (.pointer (some ⟨B,6,none⟩)) vo bs) (hf:Fr (fun i=>i=B) w W) (hf1:Fr (fun i=>vo.ownBlock=some i) W w1) (hown:w1.ownsRow 0 5 1 v' bs'.length (us bs')) (hn:∀g,v'.ownBlock=some g→vo.ownBlock=some g∨W.heap.size≤g):
 w1.heap[B]? =some (.cells (wCells vi vb nx ind so op (.pointer (some ⟨B,6,none⟩)) vo) 69 (0,0))∧WPost B w vi vb nx ind so op vo bs' (w1.setCell ⟨B,7,none⟩ v'):=by
 have hb:=hf1.block B (lt_of_block h.blk) (rowT h.row h.blk (by decide));have hs:=hf.size;refine⟨hb.trans h.blk,v',h.put hb hown,?_,fun g hg=>(hn g hg).imp id (fun h=>by omega)⟩;exact((hf.mono (fun i hi=>.inl hi)).trans (hf1.mono (fun i hi=>.inr hi))).setCell (p:=⟨B,7,none⟩) (.inl (.inl rfl)) v'
theorem writeByte_any (B:Nat) (w:World) (vi vb:Value) (nx ind:Int) (so:Bool) (op:Nat) (ad vo:Value) (bs:List UInt8) (c:UInt8) (h:WAt B w vi vb nx ind so op ad vo bs) (hl:bs.length≤100000000000):
 Calls Tryz.prog 44 #[.pointer (some ⟨B,6,none⟩),.int .u8 (c.toNat:Int)] w fun e w'=>e=.returned .nilIface∧WPost B w vi vb nx ind so op vo (bs++[c]) w':=by
 have HC:=hid (copyCheck_any B w vi vb nx ind so op ad vo bs h);obtain⟨i0,hi,hz0,hz1,hz2⟩:=info_parts Tryz.info5;obtain⟨C,hCe⟩:∃C:Int,(c.toNat:Int)=C:=⟨_,rfl⟩;have HUS:=hid (show us [c]=[.int .u8 C]from by rw[us_one,hCe]);rw[hCe];clear h hCe;go_enter Tryz.func44,Tryz.ntmps44
 go_wp2_with fail
 refine Calls.mono HC.out ?_;rintro e w1 ⟨rfl,hW,hF⟩;obtain⟨a0,n0,c0,rfl⟩:=row_shape3 hW.row;have hn0:n0=bs.length:=slice_len hW.row;subst hn0;have k7:=blk_cell hW.blk (show(wCells vi vb nx ind so op (.pointer (some ⟨B,6,none⟩)) (.slice a0 bs.length c0))[7]? =some (.slice a0 bs.length c0)from rfl);have HW:=hid hW;have HF:=hid hF;have HROW:=hid hW.row;clear hW hF
 go_wp2_with (first
  |(at_builtin;refine wpList_append_d _ rfl _ _ 65 rfl 5 i0 (.int .u8 0) 1 1 Tryz.underlying65 hi hz0 hz1 hz2 rfl (by decide) _ _ _ rfl (HROW.out.alloc _) ⟨w1.heap.size,0,none⟩ 1 1 [.int .u8 C] rfl rfl ?c1 ?c2 ?c3 ?c4 ?_)
  |fail)
 case c1=>
  intro j u hj
  match j,hj with
  |0,hj=>simp at hj;subst hj;simp[Addr.add]
  |(j+1),hj=>simp at hj
 case c2=>intro u hu;simp at hu;rcases hu with rfl<;>rfl
 case c3=>unfold maxLen;omega
 case c4=>omega
 intro v' w2 hown hgrow hnew;obtain⟨r1,r2,r3⟩:=rune_fin (l:=bs) (e:=[c]) (v:=.slice a0 bs.length c0) hown HUS.out rfl hgrow hnew;obtain⟨hb,hP⟩:=WPost.of HW.out HF.out r2 r1 r3;have b7:=blk_cell hb (show(wCells vi vb nx ind so op (.pointer (some ⟨B,6,none⟩)) (.slice a0 bs.length c0))[7]? =some (.slice a0 bs.length c0)from rfl);have f7:=blk_free (j:=7) hb;obtain⟨a3,n3,c3,rfl⟩:=row_shape3 r1;have HP:=hid hP;clear hown hgrow hnew r1 r2 r3 hb hP k7;go_wp2;go_ret;exact⟨rfl,HP.out⟩
theorem run_append_str_d {P:Program} (w:World) (t u ty e:TypeId) (i:TypeInfo) (ht:P.underlying t=some (.slice e)) (hu:P.underlying u=some .string) (hi:P.info? e=some i) (hz:i.zero=some (.int .u8 0))
 (hsize:i.size=1) (hby:i.bytes=1) (v:Value) (n:Nat) (xs:List Value) (hown:w.ownsRow 0 e 1 v n xs) (s:ByteArray) (h63:n+s.size≤maxLen) (hbytes:n+s.size≤140737488355328):
 ∃v' w',(Builtin.append_ #[t,u] ty #[v,.string s]).run P w=.ok v' w'∧w'.ownsRow 0 e 1 v' (n+s.size) (xs++Lib.strCells s)∧w.grownBy w' v.ownBlock∧(∀g',v'.ownBlock=some g'→v.ownBlock=some g'∨w.heap.size≤g'):=by
 obtain⟨v',w',hr,h2,h3,h4⟩:=Lib.run_append_own_string (P:=P) w 0 t u ty e i ht hu hi hz hsize hby v n xs hown s h63 hbytes (Nat.zero_le _);refine⟨v',w',hr,h2,h3,?_⟩;have hsmall:n+s.size≤9223372036854775807:=by simp only[maxLen]at h63;omega
 rcases hown.2 with⟨rfl,rfl⟩|⟨g,cap,cur,rfl,hbg,hg,hnc,hcm,hcs,htake⟩
 ·have hx:xs=[]:=List.eq_nil_of_length_eq_zero (by simpa using hown.1)
  subst hx;obtain⟨v2,w2,hr2,g2,_,_⟩:=Lib.run_append_own_string (P:=P) w w.heap.size t u ty e i ht hu hi hz hsize hby (.slice none 0 0) 0 [] (World.ownsRow_nil w _ e 1) s h63 hbytes (Nat.le_refl _);rw[hr]at hr2;injection hr2 with e1 e2
  subst e1 e2;exact fun g' hg'=>.inr (g2.lt g' hg').1
 ·by_cases hroom:n+s.size≤cap
  ·have hcs':cur.size=cap:=by simpa using hcs
   have hr2:=Lib.run_append_room_string (P:=P) w t u ty e i ht hu hi hsize g n cap cur hg s hroom (by omega);rw[hr]at hr2;injection hr2 with e1 e2
   subst e1;exact fun g' hg'=>.inl hg'
  ·have holds:∀j u,xs[j]? =some u→w.cell? ((⟨g,0,none⟩:Addr).add j)=some u:=hown.cells (g:=g) rfl
   have hr2:=Lib.run_append_grow_string (P:=P) w t u ty e i (.int .u8 0) ht hu hi hz ⟨g,0,none⟩ n cap xs (by rw[hsize];simpa using hown.1) holds s (by omega) (by omega) (by rw[hby];exact growslice_fits (by omega) (by omega));rw[hr]at hr2;injection hr2 with e1 e2
   subst e1;intro g' hg';refine .inr ?_;have:w.heap.size=g':=by simpa[Value.ownBlock]using hg'
   omega
theorem wpList_append_str_d {P:Program} (w:World) {ops:Array Oper} {rest:List Oper} {o:Oper} {a:Act} {Q:Exit→Act→World→Prop} (hgd:o.guard=none) (sl x:Operand) (t u:TypeId)
 (ho:o.op=.call {callee:=.builtin .append,args:=#[sl,x],argTypes:=#[t,u]})
 (e:TypeId) (i:TypeInfo) (ht:P.underlying t=some (.slice e)) (hu:P.underlying u=some .string) (hi:P.info? e=some i) (hz:i.zero=some (.int .u8 0)) (hsize:i.size=1) (hby:i.bytes=1)
 (v:Value) (n:Nat) (xs:List Value) (hs:a.eval sl=v) (hown:w.ownsRow 0 e 1 v n xs) (s:ByteArray) (hx:a.eval x=.string s) (h63:n+s.size≤maxLen) (hbytes:n+s.size≤140737488355328)
 (h:∀v' w',w'.ownsRow 0 e 1 v' (n+s.size) (xs++Lib.strCells s)→w.grownBy w' v.ownBlock→(∀g',v'.ownBlock=some g'→v.ownBlock=some g'∨w.heap.size≤g')→wpList P ops Q rest (a.put o.dst v') w'):wpList P ops Q (o::rest) a w:=by
 refine wpList_plain hgd fun _ hK=>?_
 obtain⟨v',w',hr,h2,h3,h4⟩:=run_append_str_d (P:=P) w t u o.type e i ht hu hi hz hsize hby v n xs hown s h63 hbytes;unfold Oper.wp execOp;simp only[ho,resolve,invoke,builtin,Sem.run_bind,Sem.run_pure,Result.andThen_ok,List.map_toArray,List.map_cons,List.map_nil,hs,hx,hr];exact hK _ _ (h v' w' h2 h3 h4)
theorem strCells_us (l:List UInt8):Lib.strCells (ofL l)=us l:=by
 simp[Lib.strCells,us,ofL]
theorem writeString_any (B:Nat) (w:World) (vi vb:Value) (nx ind:Int) (so:Bool) (op:Nat) (ad vo:Value) (bs s:List UInt8) (h:WAt B w vi vb nx ind so op ad vo bs) (hl:bs.length+s.length≤100000000000):
 Calls Tryz.prog 42 #[.pointer (some ⟨B,6,none⟩),.string (ofL s)] w fun e w'=>e=.returned (.tuple #[.int .i64 (s.length:Int),.nilIface])∧WPost B w vi vb nx ind so op vo (bs++s) w':=by
 have HC:=hid (copyCheck_any B w vi vb nx ind so op ad vo bs h);obtain⟨i0,hi,hz0,hz1,hz2⟩:=info_parts Tryz.info5;have hsz:=ofL_size s;have HUS:=hid (strCells_us s);generalize hS:ofL s=S at*;have hSS:=hsz;clear h hS;go_enter Tryz.func42,Tryz.ntmps42
 go_wp2_with fail
 refine Calls.mono HC.out ?_;rintro e w1 ⟨rfl,hW,hF⟩;obtain⟨a0,n0,c0,rfl⟩:=row_shape3 hW.row;have hn0:n0=bs.length:=slice_len hW.row;subst hn0;have k7:=blk_cell hW.blk (show(wCells vi vb nx ind so op (.pointer (some ⟨B,6,none⟩)) (.slice a0 bs.length c0))[7]? =some (.slice a0 bs.length c0)from rfl);have HW:=hid hW;have HF:=hid hF;have HROW:=hid hW.row;clear hW hF
 go_wp2_with (first
  |(at_builtin;refine wpList_append_str_d _ rfl _ _ 65 9 rfl 5 i0 Tryz.underlying65 Tryz.underlying9 hi hz0 hz1 hz2 _ _ _ rfl HROW.out S rfl ?c3 ?c4 ?_)
  |fail)
 case c3=>unfold maxLen;omega
 case c4=>omega
 intro v' w2 hown hgrow hnew;have r1:w2.ownsRow 0 5 1 v' (bs++s).length (us (bs++s)):=by rw[us_append,←HUS.out,List.length_append];exact hown
 have r2:Fr (fun i=>(Value.slice a0 bs.length c0).ownBlock=some i) w1 w2:=(Fr.refl _ w1).grown hgrow (fun k hk=>.inl hk);obtain⟨hb,hP⟩:=WPost.of HW.out HF.out r2 r1 hnew;have b7:=blk_cell hb (show(wCells vi vb nx ind so op (.pointer (some ⟨B,6,none⟩)) (.slice a0 bs.length c0))[7]? =some (.slice a0 bs.length c0)from rfl);have f7:=blk_free (j:=7) hb;obtain⟨a3,n3,c3,rfl⟩:=row_shape3 r1;have HP:=hid hP;clear hown hgrow hnew r1 r2 hb hP k7;go_wp2;go_ret2;exact⟨rfl,HP.out⟩
theorem encR_four (r:Nat):(encR r).length≤4:=by
 unfold encR
 repeat' split
 all_goals simp
theorem writeRune_any (B:Nat) (w:World) (vi vb:Value) (nx ind:Int) (so:Bool) (op:Nat) (ad vo:Value) (bs:List UInt8) (r:Nat) (h:WAt B w vi vb nx ind so op ad vo bs) (hl:bs.length≤99999999990) (hr:r<55296∨(57344≤r∧r≤1114111)):
 Calls Tryz.prog 126 #[.pointer (some ⟨B,6,none⟩),.int .i32 (r:Int)] w fun e w'=>(∃k:Int,e=.returned (.tuple #[.int .i64 k,.nilIface]))∧WPost B w vi vb nx ind so op vo (bs++encR r) w':=by
 have HC:=hid (copyCheck_any B w vi vb nx ind so op ad vo bs h);have HRN:=hid (fun v w (ho:World.ownsRow w 0 5 1 v bs.length (us bs))=>rune_any v bs r w ho (by omega) hr);obtain⟨E,hE⟩:∃E,encR r=E:=⟨_,rfl⟩;rw[hE]at HRN ⊢;have hEl:E.length≤4:=by rw[←hE];exact encR_four r
 generalize (r:Int)=R at*;clear h hr hE;go_enter Tryz.func126,Tryz.ntmps126
 go_wp2_with fail
 refine Calls.mono HC.out ?_;rintro e w1 ⟨rfl,hW,hF⟩;obtain⟨a0,n0,c0,rfl⟩:=row_shape3 hW.row;have hn0:n0=bs.length:=slice_len hW.row;subst hn0;have k7:=blk_cell hW.blk (show(wCells vi vb nx ind so op (.pointer (some ⟨B,6,none⟩)) (.slice a0 bs.length c0))[7]? =some (.slice a0 bs.length c0)from rfl);have HW:=hid hW;have HF:=hid hF;clear hW hF
 go_wp2_with fail
 refine Calls.mono (HRN.out _ _ HW.out.row) ?_;rintro e w2 ⟨v',rfl,r1,r2,hnew⟩;obtain⟨hb,hP⟩:=WPost.of HW.out HF.out r2 r1 hnew;have b7:=blk_cell hb (show(wCells vi vb nx ind so op (.pointer (some ⟨B,6,none⟩)) (.slice a0 bs.length c0))[7]? =some (.slice a0 bs.length c0)from rfl);have f7:=blk_free (j:=7) hb;obtain⟨a3,n3,c3,rfl⟩:=row_shape3 r1;have hn3:n3=(bs++E).length:=slice_len r1;have hn3b:n3≤100000000000:=by rw[hn3,List.length_append];omega
 have c7:(w2.setCell ⟨B,7,none⟩ (.slice a3 n3 c3)).cell? ⟨B,7,none⟩=some (.slice a3 n3 c3):=World.cell?_setCell_same _ _ _ b7;have HP:=hid hP;clear r1 r2 hnew hb hP k7 hn3;go_wp2;go_ret2;exact⟨⟨_,rfl⟩,HP.out⟩
end Go.Proofs.YtmkkibaacclhnaaGreatDoor
