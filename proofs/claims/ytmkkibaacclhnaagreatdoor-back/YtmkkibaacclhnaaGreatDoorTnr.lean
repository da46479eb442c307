/-
  A step of the walk, the part named Tnr. No theorem of the row.
-/
import Derived.Test.YtmkkibaacclhnaaGreatDoorNear
import Derived.Lib.Strings
namespace Go.Proofs.YtmkkibaacclhnaaGreatDoor
open Go.RowKit
set_option maxRecDepth 100000
set_option maxHeartbeats 16000000
theorem hid {p:Prop} (h:p):Hid p:=h
theorem cell_alloc_at (w:World) (cs:Array Value) (T j:Nat):(w.alloc (.cells cs T)).cell? ⟨w.heap.size,j,none⟩=cs[j]? :=by
 have:=heap_alloc_new w (.cells cs T);simp only[World.cell?,this];rfl
theorem p10_p2 (k:Nat):p10 k≤p2 (4*k):=p10_two k
theorem p10_309:p10 309≤p2 1030:=by decide+kernel
theorem ratio_sx (b len cap:Nat) (D:List Nat) (P:Int) (w:World) (hD:Digs D) (hl:D.length=len) (hlen:len≤800) (hcap:len≤cap) (hb:b<w.heap.size) (hB:IsBytes w b D) (hP1: -400≤P) (hP2:P≤400):
 Calls Tryz.prog 108 #[.agg #[.slice (some ⟨b,0,none⟩) len cap,.int .i64 P]] w fun e w'=>∃bo bu,e=.returned (.tuple #[.pointer (some ⟨bo,0,none⟩),.pointer (some ⟨bu,0,none⟩)])∧
  Sx (fun _=>False) (fun _=>False) w w' [(bo,num D*p10 (P-len).toNat),(bu,p10 (len-P).toNat)]:=by
 have hnum:Hid (num D<p10 len):=by have:=num_lt D hD;rwa[hl]at this
 go_enter Tryz.func108,Tryz.ntmps108
 go_wp2_with fail
 refine(fromDigits_nt b len cap D _ hD hl (by omega) hcap (by simp;omega) ?_).mono ?_
 ·intro j hj
  have:=hB j hj;rw[←this];exact World.cell?_of_block (Below.heap_alloc w _ b hb)
 rintro e w1 ⟨bo,go,rfl,q1,q2,q3,q4⟩;have hx1:Sx (fun _=>False) (fun i=>False∨i=w.heap.size) w w1 [(bo,num D)]:=((Sx.start (A:=fun _=>False) w (fun i h=>h.elim)).alloc _).more q1 q2 q3 q4;have HX1:=hid hx1;have hd1:w1.cell? ⟨w.heap.size,0,none⟩=some (.slice (some ⟨b,0,none⟩) len cap):=(q2.cell (p:=⟨w.heap.size,0,none⟩) (by simp) id).trans (cell_alloc_at _ _ _ _);have hd2:w1.cell? ⟨w.heap.size,1,none⟩=some (.int .i64 P):=(q2.cell (p:=⟨w.heap.size,1,none⟩) (by simp) id).trans (cell_alloc_at _ _ _ _);have hs1:w.heap.size<w1.heap.size:=by have:=q2.size;simp at this;omega
 clear q1 q2 q3 q4 hx1
 go_wp2_with fail
 refine(newNatural_sx 1 (by omega) HX1.out).mono ?_;rintro e w2 ⟨bu,rfl,hx2,hbu,hF2⟩;have HX2:=hid hx2;have hd3:=(hF2.cell (p:=⟨w.heap.size,0,none⟩) hs1 id).trans hd1;have hd4:=(hF2.cell (p:=⟨w.heap.size,1,none⟩) hs1 id).trans hd2;clear hx2 hF2 hd1 hd2 HX1 hB;by_cases hpow:0≤P-len
 ·have hS:Sm (num D*p10 (P-len).toNat):=Sm_p10 _ 1300 (by omega) (by
   have h1:num D*p10 (P-len).toNat<p10 len*p10 (P-len).toNat:=Nat.mul_lt_mul_of_pos_right hnum.out (p10_pos _);rw[←p10_add]at h1
   exact Nat.lt_of_lt_of_le h1 (p10_le _ _ (by omega)))
  have e1:Hid (P-len=((P-len).toNat:Int)):=by show _=_;omega
  have e2:Hid ((len-P).toNat=0):=by show _=_;omega
  go_wp2_with fail
  rw[e1.out];refine(timesPowerOfTen_sx bo (num D) (P-len).toNat hS (by omega) (Sx.swap HX2.out)).mono ?_;rintro e w3 ⟨rfl,hx3⟩;have HX3:=hid hx3;clear hx3;go_wp2;go_ret2;refine⟨bo,bu,rfl,?_⟩;rw[e2.out];exact Sx.weaken HX3.out (fun i h=>h.elim)
 ·have hS:Sm (1*p10 (len-P).toNat):=by rw[Nat.one_mul];exact Sm_p10 _ 1300 (by omega) (by
   have hpp:=p10_pos (len-P).toNat
   exact Nat.lt_of_lt_of_le (Nat.lt_of_lt_of_le (by omega:p10 (len-P).toNat<p10 (len-P).toNat*10) (Nat.le_of_eq (p10_succ _).symm)) (p10_le _ _ (by omega)))
  have e1:Hid (-(P-len)=((len-P).toNat:Int)):=by show _=_;omega
  have e2:Hid ((P-len).toNat=0):=by show _=_;omega
  go_wp2_with fail
  rw[e1.out];refine(timesPowerOfTen_sx bu 1 (len-P).toNat hS (by omega) HX2.out).mono ?_;rintro e w3 ⟨rfl,hx3⟩;have HX3:=hid hx3;clear hx3;go_wp2;go_ret2;refine⟨bo,bu,rfl,?_⟩;rw[e2.out];have:=Sx.weaken (Sx.swap HX3.out) (A':=fun _=>False) (fun i h=>h.elim);simpa[p10]using this
def bs (D:List Nat):List Value:=D.map (fun d:Nat=>Value.int .u8 ((48+d:Nat):Int))
def NearOf (D:List Nat) (P:Int) (r:Nat):Prop:=
 (D=[]∨P< -323→r=0)∧(D≠[]→¬P< -323→309<P→r=9218868437227405312)∧
 (D≠[]→¬P< -323→¬309<P→Rnd (num D*p10 (P-D.length).toNat*p2 1074) (p10 (D.length-P).toNat) r)
theorem num_pos (D:List Nat) (d:Nat) (r:List Nat) (h:D=d::r) (hd:d≠0):0<num D:=by
 subst h;have:num (d::r)=num ([d]++r):=rfl;rw[this,num_append];have h1:num [d]=d:=by simp[num]
 rw[h1];have:=p10_pos r.length;have:0<d*p10 r.length:=Nat.mul_pos (by omega) this;omega
theorem ratio_lt (D:List Nat) (P:Int) (hD:Digs D) (hP:P≤309):num D*p10 (P-D.length).toNat<p10 (D.length-P).toNat*p2 1030:=by
 have h:=num_lt D hD;have h2:num D*p10 (P-D.length).toNat<p10 (D.length+(P-D.length).toNat):=by rw[p10_add];exact Nat.mul_lt_mul_of_pos_right h (p10_pos _)
 have h3:p10 (D.length+(P-D.length).toNat)≤p10 ((D.length-P).toNat+309):=p10_le _ _ (by omega);rw[p10_add (D.length-P).toNat 309]at h3;have h4:=Nat.mul_le_mul_left (p10 (D.length-P).toNat) p10_309;omega
theorem nearest_any (dv:Value) (D:List Nat) (P:Int) (w:World) (hD:Digs D) (hlen:D.length≤800) (hne:D.head? ≠some 0) (hP1: -9000000000000000≤P) (hP2':D≠[]→P≤309)
 (ho:w.ownsRow 0 5 1 dv D.length (bs D)):
 Calls Tryz.prog 62 #[.agg #[dv,.int .i64 P]] w fun e w'=>∃r:Nat,e=.returned (.int .u64 r)∧NearOf D P r∧Fr (fun _=>False) w w':=by
 rcases List.eq_nil_or_concat D with rfl|⟨i,x,hDe⟩
 ·obtain⟨n,c,hdv⟩:∃(a:Option Addr) (c:Nat),dv=.slice a 0 c:=by
   rcases ho.2 with⟨h,_⟩|⟨g,c,cur,h,_⟩
   ·exact⟨none,0,h⟩
   ·exact⟨_,c,h⟩
  subst hdv;clear ho;go_enter Tryz.func62,Tryz.ntmps62;go_wp2;go_ret;exact⟨0,rfl,⟨fun _=>rfl,fun h=>absurd rfl h,fun h=>absurd rfl h⟩,(Fr.refl _ _).alloc _⟩
 ·have hpos:0<D.length:=by rw[hDe];simp
  have hDn:D≠[]:=by rintro rfl;simp at hpos
  have hP2:=hP2' hDn;clear hP2';obtain⟨g,cap,rfl⟩:=row_pos ho hpos;have hcap:=ownsRow_cap ho;have hlz:((D.length:Int)==0)=false:=by simp;omega
  by_cases h1:P< -323
  ·clear ho hDe hne
   have HD:=hid hDn;clear hDn;go_enter Tryz.func62,Tryz.ntmps62;go_wp2;go_ret;exact⟨0,rfl,⟨fun _=>rfl,fun _ h=>absurd h1 h,fun _ h=>absurd h1 h⟩,(Fr.refl _ _).alloc _⟩
  ·have hg:g<w.heap.size:=(ho.lt g rfl).2
   have hB:IsBytes (w.alloc (.cells #[.slice (some ⟨g,0,none⟩) D.length cap,.int .i64 P] 89)) g D:=by
    intro j hj;rw[World.cell?_of_block (w:=w) (Below.heap_alloc w _ g hg),ho.cellAt j (by omega),bs,List.getElem?_map,List.getElem?_eq_getElem hj];rfl
   have hnum:0<num D:=by
    cases D with
    |nil=>exact absurd rfl hDn
    |cons d r=>exact num_pos _ d r rfl (by intro e;apply hne;simp[e])
   have hlt:=ratio_lt D P hD (by omega);have hN1:0<num D*p10 (P-D.length).toNat:=Nat.mul_pos hnum (p10_pos _)
   have hN2:num D*p10 (P-D.length).toNat<p2 8000:=by
    have a:num D*p10 (P-D.length).toNat<p10 (D.length+(P-D.length).toNat):=by rw[p10_add];exact Nat.mul_lt_mul_of_pos_right (num_lt D hD) (p10_pos _)
    exact Nat.lt_of_lt_of_le a (Nat.le_trans (p10_p2 _) (p2_le (by omega)))
   have hN3:p10 (D.length-P).toNat<p2 8000:=by
    have hpp:=p10_pos (D.length-P).toNat;have a:p10 (D.length-P).toNat<p10 ((D.length-P).toNat+1):=by rw[p10_succ];omega
    exact Nat.lt_of_lt_of_le a (Nat.le_trans (p10_p2 _) (p2_le (by omega)))
   have HB:=hid hB;have HD:=hid hDn;have H1:=hid hN1;have H2:=hid hN2;have H3:=hid hN3;have H4:=hid hlt;clear hB ho hne hDe hDn hnum hlt hN1 hN2 hN3;go_enter Tryz.func62,Tryz.ntmps62
   go_wp2_with fail
   refine(ratio_sx g D.length cap D P _ hD rfl (by omega) hcap (by simp;omega) HB.out (by omega) (by omega)).mono ?_;rintro e w1 ⟨bo,bu,rfl,hx⟩;have HX:=hid hx;clear hx
   go_wp2_with fail
   refine(nearestBits_sx bo _ bu _ _ H1.out (p10_pos _) H2.out H3.out H4.out HX.out).mono ?_;rintro e w2 ⟨r,rfl,hr,N',M',hx2⟩;have HR:=hid hr;have HX2:=hid hx2;clear hr hx2;go_wp2;go_ret;exact⟨r,rfl,⟨fun h=>by rcases h with h|h;exact absurd h HD.out;exact absurd h (by omega),fun _ _ h=>absurd h (by omega),fun _ _ _=>HR.out⟩,((Fr.refl (fun _=>False) w).alloc _).trans (Sx.fr HX2.out)⟩
def addD (x:List Nat×Int) (d:Nat):List Nat×Int:=
 if x.1=[]∧d=0 then(x.1,x.2-1)else if x.1.length<768 then(x.1++[d],x.2)else if x.1.length=768∧d≠0 then(x.1++[1],x.2)else x
def addDs (x:List Nat×Int) (ds:List Nat):List Nat×Int:=ds.foldl addD x
theorem addDs_snoc (x:List Nat×Int) (ds:List Nat) (d:Nat):addDs x (ds++[d])=addD (addDs x ds) d:=by simp[addDs]
theorem addDs_append (x:List Nat×Int) (a b:List Nat):addDs x (a++b)=addDs (addDs x a) b:=by simp[addDs]
def dig (s:ByteArray):List Nat:=s.data.toList.map (fun c=>c.toNat-48)
theorem Tryz.info5:(Tryz.prog.info? 5).map (fun i=>(i.zero,i.size,i.bytes))=some (some (.int .u8 0),1,1):=by kernel_rfl
theorem two_set1 {w:World} {B:Nat} {a b u:Value} {t:TypeId} (h:w.heap[B]? =some (.cells #[a,b] t (0,0))):(w.setCell ⟨B,1,none⟩ u).heap[B]? =some (.cells #[a,u] t (0,0)):=by
 have:=heap_setCell_same w B 1 #[a,b] t u h;simpa using this
theorem two_set0 {w:World} {B:Nat} {a b u:Value} {t:TypeId} (h:w.heap[B]? =some (.cells #[a,b] t (0,0))):(w.setCell ⟨B,0,none⟩ u).heap[B]? =some (.cells #[u,b] t (0,0)):=by
 have:=heap_setCell_same w B 0 #[a,b] t u h;simpa using this
theorem two_cell0 {w:World} {B:Nat} {a b:Value} {t:TypeId} (h:w.heap[B]? =some (.cells #[a,b] t (0,0))):w.cell? ⟨B,0,none⟩=some a:=by simp[World.cell?,h]
theorem two_cell1 {w:World} {B:Nat} {a b:Value} {t:TypeId} (h:w.heap[B]? =some (.cells #[a,b] t (0,0))):w.cell? ⟨B,1,none⟩=some b:=by simp[World.cell?,h]
theorem two_free {w:World} {B j:Nat} {a b:Value} {t:TypeId} (h:w.heap[B]? =some (.cells #[a,b] t (0,0))):w.frozen? ⟨B,j,none⟩=false:=by simp[World.frozen?,h]
theorem row_other {w:World} {base:Nat} {dv:Value} {n:Nat} {xs:List Value} {B T:Nat} {a:Array Value} (h:w.ownsRow base 5 1 dv n xs) (hB:w.heap[B]? =some (.cells a T (0,0))) (hT:T≠5):dv.ownBlock≠some B:=by
 intro e;rcases h.2 with⟨rfl,_⟩|⟨g,cap,cur,rfl,_,hg,_⟩
 ·simp[Value.ownBlock]at e
 ·simp[Value.ownBlock]at e
  subst e;rw[hg]at hB;simp at hB;exact hT hB.2.symm
theorem row_shape {w:World} {base:Nat} {dv:Value} {n:Nat} {xs:List Value} (h:w.ownsRow base 5 1 dv n xs):∃a cap,dv=.slice a n cap:=by
 rcases h.2 with⟨rfl,rfl⟩|⟨g,cap,cur,rfl,_⟩
 ·exact⟨none,0,rfl⟩
 ·exact⟨_,cap,rfl⟩
theorem addD_len (x:List Nat×Int) (d:Nat) (h:x.1.length≤769):(addD x d).1.length≤769:=by
 unfold addD;split
 ·exact h
 ·split
  ·simp;omega
  ·split
   ·simp;omega
   ·exact h
theorem addD_P (x:List Nat×Int) (d:Nat):x.2-1≤(addD x d).2∧(addD x d).2≤x.2:=by
 unfold addD;split
 ·simp only;omega
 ·split
  ·simp only;omega
  ·split
   ·simp only;omega
   ·omega
theorem row_snoc {w:World} {base:Nat} {v:Value} {D:List Nat} {z:Int} {d:Nat} (h:w.ownsRow base 5 1 v (D.length+1) (bs D++[.int .u8 z])) (hz:z=((48+d:Nat):Int)):w.ownsRow base 5 1 v (D++[d]).length (bs (D++[d])):=by
 subst hz;have e:bs (D++[d])=bs D++[.int .u8 ((48+d:Nat):Int)]:=by simp[bs]
 rw[e,List.length_append];exact h
def ofL (l:List UInt8):ByteArray:=⟨l.toArray⟩
theorem ofL_size (l:List UInt8):(ofL l).size=l.length:=by simp[ofL,ByteArray.size]
theorem ofL_extract (l:List UInt8) (a b:Nat):(ofL l).extract a b=ofL ((l.take b).drop a):=by
 apply ByteArray.ext;simp[ofL,List.drop_take]
theorem ofL_toList (l:List UInt8):(ofL l).toList=l:=by rw[Lib.toList_data];simp[ofL]
theorem ofL_get (l:List UInt8) (k:Nat) (h:k<(ofL l).size):(ofL l)[k]=l[k]'(by rw[ofL_size]at h;exact h):=by
 show(ofL l).data[k]=_
 simp[ofL]
def isD (c:UInt8):Bool:=decide (48≤c.toNat∧c.toNat≤57)
theorem num_le_step (ds:List Nat) (d L:Nat):min (min (num ds) L*10+d) L=min (num (ds++[d])) L:=by
 rw[num_snoc];omega
def powI (_ _:ByteArray) (en:Bool) (ex:ByteArray):Int:=if en then-(num (dig ex):Int)else(num (dig ex):Int)
theorem addD_digs (x:List Nat×Int) (d:Nat) (hd:d≤9) (h:Digs x.1) (hh:x.1.head? ≠some 0):Digs (addD x d).1∧(addD x d).1.head? ≠some 0:=by
 unfold addD;split
 ·exact⟨h,hh⟩
 ·rename_i h1
  split
  ·refine⟨?_,?_⟩
   ·intro y hy;simp only[List.mem_append,List.mem_singleton]at hy;rcases hy with hy|hy
    ·exact h y hy
    ·omega
   ·obtain⟨D,P⟩:=x
    cases D with
    |nil=>simp at h1 ⊢;exact h1
    |cons y r=>simpa using hh
  ·split
   ·rename_i h2
    refine⟨?_,?_⟩
    ·intro y hy;simp only[List.mem_append,List.mem_singleton]at hy;rcases hy with hy|hy
     ·exact h y hy
     ·omega
    ·obtain⟨D,P⟩:=x
     cases D with
     |nil=>simp at h2
     |cons y r=>simpa using hh
   ·exact⟨h,hh⟩
def parseV (neg:Bool) (r:Nat):Nat×Nat:=if 9218868437227405312≤r then(0,6)else(if neg then r+9223372036854775808 else r,0)
theorem or_sign (r:Nat) (h:r<9223372036854775808):bits BinOp.or IntKind.u64 (r:Int) 9223372036854775808=((r+9223372036854775808:Nat):Int):=by
 rw[show(9223372036854775808:Int)=((9223372036854775808:Nat):Int)from rfl,u64_or_nat r _ (by omega) (by omega),Nat.or_comm,nat_join 63 _ r (by decide) h,Nat.add_comm]
structure Tk where
 st:Nat
 neg:Bool
 D:List Nat
 P:Int
 pw:Nat
 pn:Bool
def beh (s:Nat) (c:UInt8):Nat:=
 if s=0∧c=45 then 1
 else if(s=0∨s=1)∧c=48 then 2
 else if(s=0∨s=1∨s=3)∧isD c=true then 3
 else if(s=2∨s=3)∧c=46 then 4
 else if(s=4∨s=5)∧isD c=true then 5
 else if(s=2∨s=3∨s=5)∧(c=101∨c=69)then 6
 else if s=6∧(c=43∨c=45)then 7
 else if(s=6∨s=7∨s=8)∧isD c=true then 8
 else 0
def nxtTo (t:Tk) (c:UInt8) (k:Nat):Tk:=
 if k=1 then⟨1,true,t.D,t.P,t.pw,t.pn⟩
 else if k=2∨k=3 then⟨k,t.neg,(addD (t.D,t.P+1) (c.toNat-48)).1,(addD (t.D,t.P+1) (c.toNat-48)).2,t.pw,t.pn⟩
 else if k=5 then⟨k,t.neg,(addD (t.D,t.P) (c.toNat-48)).1,(addD (t.D,t.P) (c.toNat-48)).2,t.pw,t.pn⟩
 else if k=7 then⟨k,t.neg,t.D,t.P,t.pw,decide (c=45)⟩
 else if k=8 then⟨k,t.neg,t.D,t.P,min (t.pw*10+(c.toNat-48)) (t.P.natAbs+632),t.pn⟩
 else⟨k,t.neg,t.D,t.P,t.pw,t.pn⟩
def nxt (t:Tk) (c:UInt8):Option Tk:=if beh t.st c=0 then none else some (nxtTo t c (beh t.st c))
def run (t:Tk):List UInt8→Option Tk
 |[]=>some t
 |c::l=>match nxt t c with
  |none=>none
  |some t'=>run t' l
def t0:Tk:=⟨0,false,[],0,0,false⟩
theorem run_append (t:Tk) (a b:List UInt8):run t (a++b)=(run t a).bind (fun t'=>run t' b):=by
 induction a generalizing t with
 |nil=>rfl
 |cons c a ih=>
  show(match nxt t c with|none=>none|some t'=>run t' (a++b))=_
  simp only[run];cases nxt t c with
  |none=>rfl
  |some t'=>exact ih t'
theorem run_one (t:Tk) (c:UInt8):run t [c]=nxt t c:=by
 simp only[run];cases nxt t c<;>rfl
theorem run_snoc {t t':Tk} {a:List UInt8} (c:UInt8) (h:run t a=some t'):run t (a++[c])=nxt t' c:=by
 rw[run_append,h];exact run_one t' c
theorem run_none {t t':Tk} {a:List UInt8} {c:UInt8} (b:List UInt8) (h:run t a=some t') (hc:nxt t' c=none):run t (a++c::b)=none:=by
 rw[run_append,h]
 show run t' (c::b)=none
 simp only[run,hc]
theorem beh_lt (s:Nat) (c:UInt8):beh s c≤8:=by
 unfold beh
 repeat' split
 all_goals omega
structure TkOk (t:Tk) (k:Nat):Prop where
 st:t.st≤8
 digs:Digs t.D
 head:t.D.head? ≠some 0
 len:t.D.length≤769
 p1: -(k:Int)≤t.P
 p2:t.P≤k
 pw:t.pw≤t.P.natAbs+632
theorem t0_ok:TkOk t0 0:=⟨by decide,(by intro d h;cases h),by simp[t0],by simp[t0],by simp[t0],by simp[t0],by simp[t0]⟩
theorem isD_iff (c:UInt8):isD c=true↔48≤c.toNat∧c.toNat≤57:=by unfold isD;rw[decide_eq_true_iff]
def PwZero (t:Tk):Prop:=t.st≤7→t.pw=0
theorem beh_digit {s:Nat} {c:UInt8} (h:beh s c=2∨beh s c=3∨beh s c=5∨beh s c=8):isD c=true:=by
 unfold beh at h;by_cases h48:c=48
 ·subst h48;decide
 ·revert h
  repeat' split
  all_goals first|(intro h;omega)|(intro _;simp_all)
theorem beh_small {s:Nat} {c:UInt8} (hs:s=8):beh s c=0∨beh s c=8:=by
 subst hs;unfold beh
 repeat' split
 all_goals simp_all
theorem nxt_ok {t t':Tk} {k:Nat} {c:UInt8} (h:TkOk t k) (hz:PwZero t) (he:nxt t c=some t'):TkOk t' (k+1)∧PwZero t':=by
 unfold nxt at he;split at he
 ·cases he
 rename_i h0
 simp only[Option.some.injEq]at he;have hb:=beh_lt t.st c;have hdig:= @beh_digit t.st c;have hsm:= @beh_small t.st c;have hst:=h.st;have hlen:=h.len;have hp1:=h.p1;have hp2:=h.p2;have hpw:=h.pw;unfold PwZero at hz;generalize beh t.st c=b at*;have hd9:b=2∨b=3∨b=5∨b=8→c.toNat-48≤9:=fun hh=>by have:=(isD_iff c).1 (hdig hh);omega
 have a1:∀P',(b=2∨b=3∨b=5∨b=8)→Digs (addD (t.D,P') (c.toNat-48)).1∧(addD (t.D,P') (c.toNat-48)).1.head? ≠some 0:=fun P' hh=>addD_digs (t.D,P') _ (hd9 hh) h.digs h.head
 have a2:∀P',(addD (t.D,P') (c.toNat-48)).1.length≤769:=fun P'=>addD_len _ _ h.len
 have a3:∀P',P'-1≤(addD (t.D,P') (c.toNat-48)).2∧(addD (t.D,P') (c.toNat-48)).2≤P':=fun P'=>addD_P (t.D,P') _
 subst he;unfold nxtTo;split
 ·exact⟨⟨by simp,h.digs,h.head,h.len,by simp only;omega,by simp only;omega,h.pw⟩,fun _=>hz (by omega)⟩
 split
 ·rename_i h1 h2
  have hx:=a1 (t.P+1) (by omega);have hy:=a3 (t.P+1);have hz0:=hz (by omega);refine⟨⟨by simp only;omega,hx.1,hx.2,a2 _,by simp only;omega,by simp only;omega,by simp only;omega⟩,fun _=>hz0⟩
 split
 ·rename_i h1 h2 h3
  have hx:=a1 t.P (by omega);have hy:=a3 t.P;have hz0:=hz (by omega);refine⟨⟨by simp only;omega,hx.1,hx.2,a2 _,by simp only;omega,by simp only;omega,by simp only;omega⟩,fun _=>hz0⟩
 split
 ·exact⟨⟨by simp only;omega,h.digs,h.head,h.len,by simp only;omega,by simp only;omega,h.pw⟩,fun _=>hz (by omega)⟩
 split
 ·refine⟨⟨by simp only;omega,h.digs,h.head,h.len,by simp only;omega,by simp only;omega,by simp only;omega⟩,fun hh=>?_⟩
  simp only at hh;omega
 ·exact⟨⟨by simp only;omega,h.digs,h.head,h.len,by simp only;omega,by simp only;omega,h.pw⟩,fun _=>hz (by omega)⟩
theorem addD_shift (D:List Nat) (P k:Int) (d:Nat):addD (D,P+k) d=((addD (D,P) d).1,(addD (D,P) d).2+k):=by
 unfold addD;simp only
 repeat' split
 all_goals simp only
 all_goals first|rfl|(refine Prod.ext rfl ?_;simp only;omega)
theorem addDs_shift (x:List Nat×Int) (k:Int) (ds:List Nat):addDs (x.1,x.2+k) ds=((addDs x ds).1,(addDs x ds).2+k):=by
 induction ds generalizing x with
 |nil=>rfl
 |cons d ds ih=>
  show addDs (addD (x.1,x.2+k) d) ds=_
  rw[addD_shift,ih];rfl
def dv (l:List UInt8):List Nat:=l.map (fun c=>c.toNat-48)
theorem dig_ofL (l:List UInt8):dig (ofL l)=dv l:=by simp[dig,ofL,dv]
def AllD (l:List UInt8):Prop:=∀c∈l,isD c=true
theorem isD_ne' {c d:UInt8} (h:isD c=true) (hd:isD d=false):c≠d:=by rintro rfl;rw[h]at hd;cases hd
theorem run_whole {neg pn:Bool} {pw:Nat} {D:List Nat} {P:Int} (l:List UInt8) (hl:AllD l):
 run ⟨3,neg,D,P,pw,pn⟩ l=some ⟨3,neg,(addDs (D,P+l.length) (dv l)).1,(addDs (D,P+l.length) (dv l)).2,pw,pn⟩:=by
 induction l generalizing D P with
 |nil=>simp[run,addDs,dv]
 |cons c l ih=>
  have hc:=hl c List.mem_cons_self;have h45:=isD_ne' hc (show isD 45=false by decide);have hb:beh 3 c=3:=by simp[beh,hc]
  simp only[run,nxt,hb];rw[if_neg (by decide)];simp only[nxtTo];rw[if_neg (by decide),if_pos (by decide)];rw[ih (fun x hx=>hl x (List.mem_cons_of_mem _ hx))]
  have e:addDs (D,P+((c::l).length:Nat)) (dv (c::l))=addDs ((addD (D,P+1) (c.toNat-48)).1,(addD (D,P+1) (c.toNat-48)).2+(l.length:Nat)) (dv l):=by
   rw[←addD_shift,show P+1+((l.length:Nat):Int)=P+(((c::l).length:Nat):Int) by rw[List.length_cons];omega];rfl
  rw[e]
theorem run_wholes {neg:Bool} (s:Nat) (hs:s=0∨s=1) (l:List UInt8) (hl:AllD l) (h0:l≠[]) (h1:¬(l.head? =some 48∧1<l.length)):
 ∃k,(k=2∨k=3)∧run ⟨s,neg,[],0,0,false⟩ l=some ⟨k,neg,(addDs ([],(l.length:Int)) (dv l)).1,(addDs ([],(l.length:Int)) (dv l)).2,0,false⟩:=by
 cases l with
 |nil=>exact absurd rfl h0
 |cons c l=>
  have hc:=hl c List.mem_cons_self;have h45:=isD_ne' hc (show isD 45=false by decide);by_cases h48:c=48
  ·subst h48
   have hn:l=[]:=by
    cases l with
    |nil=>rfl
    |cons x l=>exact absurd ⟨rfl,by simp⟩ h1
   subst hn;refine⟨2,.inl rfl,?_⟩;have hb:beh s 48=2:=by rcases hs with rfl|rfl<;>decide
   simp only[run,nxt,hb];rw[if_neg (by decide)];rfl
  ·refine⟨3,.inr rfl,?_⟩
   have hb:beh s c=3:=by rcases hs with rfl|rfl<;>simp[beh,hc,h45,h48]
   simp only[run,nxt,hb];rw[if_neg (by decide)];simp only[nxtTo];rw[if_neg (by decide),if_pos (by decide)];simp only[Int.zero_add];rw[run_whole l (fun x hx=>hl x (List.mem_cons_of_mem _ hx)),←addD_shift,show(1:Int)+((l.length:Nat):Int)=(((c::l).length:Nat):Int) by rw[List.length_cons];omega];rfl
theorem run_frac {neg pn:Bool} {pw:Nat} {D:List Nat} {P:Int} (s:Nat) (hs:s=4∨s=5) (l:List UInt8) (h0:l≠[]) (hl:AllD l):
 run ⟨s,neg,D,P,pw,pn⟩ l=some ⟨5,neg,(addDs (D,P) (dv l)).1,(addDs (D,P) (dv l)).2,pw,pn⟩:=by
 induction l generalizing D P s with
 |nil=>exact absurd rfl h0
 |cons c l ih=>
  have hc:=hl c List.mem_cons_self;have h45:=isD_ne' hc (show isD 45=false by decide);have h46:=isD_ne' hc (show isD 46=false by decide);have hb:beh s c=5:=by rcases hs with rfl|rfl<;>simp[beh,hc]
  simp only[run,nxt,hb];rw[if_neg (by decide)];simp only[nxtTo];rw[if_neg (by decide),if_neg (by decide),if_pos (by decide)];cases l with
  |nil=>rfl
  |cons x l=>
   rw[ih 5 (.inr rfl) (by simp) (fun x hx=>hl x (List.mem_cons_of_mem _ hx))];rfl
theorem run_power {neg pn:Bool} {pw:Nat} {D:List Nat} {P:Int} (s:Nat) (hs:s=6∨s=7∨s=8) (l pre:List UInt8) (h0:l≠[]) (hl:AllD l) (hp:pw=min (num (dv pre)) (P.natAbs+632)):
 run ⟨s,neg,D,P,pw,pn⟩ l=some ⟨8,neg,D,P,min (num (dv (pre++l))) (P.natAbs+632),pn⟩:=by
 induction l generalizing pw pre s with
 |nil=>exact absurd rfl h0
 |cons c l ih=>
  have hc:=hl c List.mem_cons_self;have h45:=isD_ne' hc (show isD 45=false by decide);have h43:=isD_ne' hc (show isD 43=false by decide);have hb:beh s c=8:=by rcases hs with rfl|rfl|rfl<;>simp[beh,hc,h45,h43]
  simp only[run,nxt,hb];rw[if_neg (by decide)];simp only[nxtTo];rw[if_neg (by decide),if_neg (by decide),if_neg (by decide),if_neg (by decide),if_pos (by decide)]
  have e:min (pw*10+(c.toNat-48)) (P.natAbs+632)=min (num (dv (pre++[c]))) (P.natAbs+632):=by
   rw[hp,num_le_step];simp[dv]
  cases l with
  |nil=>rw[e];rfl
  |cons x l=>
   rw[ih 8 (.inr (.inr rfl)) (pre++[c]) (by simp) (fun x hx=>hl x (List.mem_cons_of_mem _ hx)) e,List.append_assoc];rfl
def sgP (neg:Bool):List UInt8:=if neg then[45]else[]
def frP (fr:List UInt8):List UInt8:=if fr=[]then[]else 46::fr
def exP (s ex:List UInt8):List UInt8:=if ex=[]then[]else 101::(s++ex)
def SgOk (s:List UInt8) (en:Bool):Prop:=(s=[]∧en=false)∨(s=[43]∧en=false)∨(s=[45]∧en=true)
theorem run_sgP (neg:Bool) (l:List UInt8):∃s,(s=0∨s=1)∧run t0 (sgP neg++l)=run ⟨s,neg,[],0,0,false⟩ l:=by
 cases neg
 ·exact⟨0,.inl rfl,rfl⟩
 ·exact⟨1,.inr rfl,rfl⟩
theorem run_frP {neg:Bool} {D:List Nat} {P:Int} (s:Nat) (hs:s=2∨s=3) (fr l:List UInt8) (hf:AllD fr):
 ∃k,(k=2∨k=3∨k=5)∧run ⟨s,neg,D,P,0,false⟩ (frP fr++l)=run ⟨k,neg,(addDs (D,P) (dv fr)).1,(addDs (D,P) (dv fr)).2,0,false⟩ l:=by
 by_cases h0:fr=[]
 ·subst h0
  exact⟨s,by omega,rfl⟩
 ·refine⟨5,by omega,?_⟩
  rw[frP,if_neg h0,List.cons_append];have hb:beh s 46=4:=by rcases hs with rfl|rfl<;>decide
  simp only[run,nxt,hb];rw[if_neg (by decide)]
  show run ⟨4,neg,D,P,0,false⟩ (fr++l)=_
  rw[run_append,run_frac 4 (.inl rfl) fr h0 hf];rfl
theorem run_exP {neg:Bool} {D:List Nat} {P:Int} (k:Nat) (hk:k=2∨k=3∨k=5) (m:UInt8) (hm:m=101∨m=69) (s ex:List UInt8) (en:Bool) (h0:ex≠[]) (hs:SgOk s en) (hx:AllD ex):
 run ⟨k,neg,D,P,0,false⟩ (m::(s++ex))=some ⟨8,neg,D,P,min (num (dv ex)) (P.natAbs+632),en⟩:=by
 have hb:beh k m=6:=by rcases hk with rfl|rfl|rfl<;>rcases hm with rfl|rfl<;>decide
 simp only[run,nxt,hb];rw[if_neg (by decide)]
 show run ⟨6,neg,D,P,0,false⟩ (s++ex)=_
 have hp:(0:Nat)=min (num (dv [])) (P.natAbs+632):=by
  show 0=min 0 _
  omega
 rcases hs with⟨rfl,rfl⟩|⟨rfl,rfl⟩|⟨rfl,rfl⟩
 ·exact run_power 6 (.inl rfl) ex [] h0 hx hp
 ·show run ⟨7,neg,D,P,0,false⟩ ex=_
  exact run_power 7 (.inr (.inl rfl)) ex [] h0 hx hp
 ·show run ⟨7,neg,D,P,0,true⟩ ex=_
  exact run_power 7 (.inr (.inl rfl)) ex [] h0 hx hp
def Ends (k:Nat):Prop:=k=2∨k=3∨k=5∨k=8
theorem run_tok {neg:Bool} {wh fr s ex:List UInt8} {en:Bool} (hw:AllD wh) (hf:AllD fr) (hx:AllD ex) (hs:SgOk s en) (he:ex=[]→en=false) (h0:wh≠[]) (h1:¬(wh.head? =some 48∧1<wh.length)):
 ∃k,Ends k∧run t0 (sgP neg++(wh++(frP fr++exP s ex)))=some ⟨k,neg,(addDs ([],(wh.length:Int)) (dv wh++dv fr)).1,(addDs ([],(wh.length:Int)) (dv wh++dv fr)).2,
  min (num (dv ex)) ((addDs ([],(wh.length:Int)) (dv wh++dv fr)).2.natAbs+632),en⟩:=by
 obtain⟨s1,hs1,e1⟩:=run_sgP neg (wh++(frP fr++exP s ex));obtain⟨s2,hs2,e2⟩:=run_wholes (neg:=neg) s1 hs1 wh hw h0 h1;obtain⟨s3,hs3,e3⟩:=run_frP (neg:=neg) (D:=(addDs ([],(wh.length:Int)) (dv wh)).1) (P:=(addDs ([],(wh.length:Int)) (dv wh)).2) s2 hs2 fr (exP s ex) hf;rw[e1,run_append,e2]
 show∃k,Ends k∧run _ _=_
 rw[e3];rw[show((addDs ([],(wh.length:Int)) (dv wh)).1,(addDs ([],(wh.length:Int)) (dv wh)).2)=addDs ([],(wh.length:Int)) (dv wh)from rfl,←addDs_append];by_cases hx0:ex=[]
 ·have hen:=he hx0
  subst hx0;subst hen;refine⟨s3,by unfold Ends;omega,?_⟩;rw[exP,if_pos rfl];simp only[run];rw[show min (num (dv [])) ((addDs ([],(wh.length:Int)) (dv wh++dv fr)).2.natAbs+632)=0 from by show min 0 _=0;omega]
 ·refine⟨8,by unfold Ends;omega,?_⟩
  rw[exP,if_neg hx0];exact run_exP s3 hs3 101 (.inl rfl) s ex en hx0 hs hx
def dLess:List Nat→List Nat→Bool
 |_,[]=>false
 |[],_::_=>true
 |a::x,b::y=>decide (a<b)||(decide (a=b)&&dLess x y)
theorem num_cons (d:Nat) (r:List Nat):num (d::r)=d*p10 r.length+num r:=by
 have:num (d::r)=num ([d]++r):=rfl;rw[this,num_append];simp[num]
theorem num_last {b:List Nat} (h:b.getLast? ≠some 0) (h0:b≠[]):0<num b:=by
 rcases List.eq_nil_or_concat b with rfl|⟨i,x,rfl⟩
 ·exact absurd rfl h0
 ·rw[List.concat_eq_append,num_snoc]
  have:x≠0:=by rintro rfl;apply h;simp
  omega
theorem dLess_iff (a b:List Nat) (ha:Digs a) (hb:Digs b) (hz:b.getLast? ≠some 0):dLess a b=true↔num a*p10 b.length<num b*p10 a.length:=by
 induction a generalizing b with
 |nil=>
  cases b with
  |nil=>simp[dLess,num]
  |cons y b=>
   have:=num_last hz (by simp);simp only[dLess,true_iff]
   show 0*_<num (y::b)*p10 0
   rw[Nat.zero_mul,show p10 0=1 from rfl,Nat.mul_one];exact this
 |cons x a ih=>
  cases b with
  |nil=>simp[dLess,num]
  |cons y b=>
   have ha':Digs a:=fun d hd=>ha d (List.mem_cons_of_mem _ hd)
   have hb':Digs b:=fun d hd=>hb d (List.mem_cons_of_mem _ hd)
   have na:=num_lt a ha';have nb:=num_lt b hb'
   have hih:=ih b ha' hb' (by
    intro h;apply hz;cases b with
    |nil=>simp at h
    |cons z b=>simpa using h)
   simp only[dLess,Bool.or_eq_true,Bool.and_eq_true,decide_eq_true_eq];rw[hih,num_cons,num_cons,List.length_cons,List.length_cons,p10_succ,p10_succ];generalize num a=A at*;generalize num b=C at*;have pa:=p10_pos a.length;have pb:=p10_pos b.length;generalize p10 a.length=p at*;generalize p10 b.length=q at*
   have e1:(x*p+A)*(q*10)=(x*(p*q)+A*q)*10:=by
    rw[←Nat.mul_assoc,Nat.add_mul,Nat.mul_assoc x p q]
   have e2:(y*q+C)*(p*10)=(y*(p*q)+C*p)*10:=by
    rw[←Nat.mul_assoc,Nat.add_mul,Nat.mul_assoc y q p,Nat.mul_comm q p]
   rw[e1,e2];have f1:A*q<p*q:=Nat.mul_lt_mul_of_pos_right na pb;have f2:C*p<p*q:=by rw[Nat.mul_comm p q];exact Nat.mul_lt_mul_of_pos_right nb pa
   generalize A*q=G at*;generalize C*p=H at*;generalize p*q=M at*;rcases Nat.lt_trichotomy x y with h|h|h
   ·have:(x+1)*M≤y*M:=Nat.mul_le_mul_right _ h
    rw[Nat.add_mul]at this;constructor
    ·intro _;omega
    ·intro _;exact .inl h
   ·subst h
    constructor
    ·rintro(h|⟨_,h⟩)
     ·omega
     ·omega
    ·intro h;exact .inr ⟨rfl,by omega⟩
   ·have:(y+1)*M≤x*M:=Nat.mul_le_mul_right _ h
    rw[Nat.add_mul]at this;constructor
    ·rintro(h|⟨h,_⟩)<;>omega
    ·intro _;omega
def bnd:List Nat:=[1,7,9,7,6,9,3,1,3,4,8,6,2,3,1,5,8,0,7,9,3,7,2,8,9,7,1,4,0,5,3,0,3,4,1,5,0,7,9,9,3,4,1,3,2,7,1,0,0,3,7,8,2,6,9,3,6,1,7,3,7,7,8,9,8,0,4,4,4,9,6,8,2,9,2,7,6,4,7,5,0,9,4,6,6,4,9,0,1,7,9,7,7,5,8,7,2,0,7,0,9,6,3,3,0,2,8,6,4,1,6,6,9,2,8,8,7,9,1,0,9,4,6,5,5,5,5,4,7,8,5,1,9,4,0,4,0,2,6,3,0,6,5,7,4,8,8,6,7,1,5,0,5,8,2,0,6,8,1,9,0,8,9,0,2,0,0,0,7,0,8,3,8,3,6,7,6,2,7,3,8,5,4,8,4,5,8,1,7,7,1,1,5,3,1,7,6,4,4,7,5,7,3,0,2,7,0,0,6,9,8,5,5,5,7,1,3,6,6,9,5,9,6,2,2,8,4,2,9,1,4,8,1,9,8,6,0,8,3,4,9,3,6,4,7,5,2,9,2,7,1,9,0,7,4,1,6,8,4,4,4,3,6,5,5,1,0,7,0,4,3,4,2,7,1,1,5,5,9,6,9,9,5,0,8,0,9,3,0,4,2,8,8,0,1,7,7,9,0,4,1,7,4,4,9,7,7,9,2]
theorem bnd_len:bnd.length=309:=by decide+kernel
theorem bnd_digs:Digs bnd:=by
 have:bnd.all (fun d=>decide (d≤9))=true:=by decide+kernel
 intro d hd;simpa using List.all_eq_true.1 this d hd
theorem bnd_last:bnd.getLast? ≠some 0:=by decide+kernel
theorem bnd_mid:mid 9218868437227405311=2*(num bnd*p2 1074):=by decide+kernel
theorem bnd_big:p10 308≤num bnd:=by decide+kernel
def oor (D:List Nat) (P:Int):Bool:=if D=[]∨P<309 then false else if 309<P then true else !dLess D bnd
theorem mid_le {a b:Nat} (h:a≤b):mid a≤mid b:=by
 rcases Nat.lt_or_ge a b with h1|h1
 ·exact Nat.le_of_lt (mid_lt h1)
 ·rw[show a=b by omega];exact Nat.le_refl _
theorem rnd_big {X Y r:Nat} (h:Rnd X Y r) (hr:9218868437227405312≤r):mid 9218868437227405311*Y≤2*X:=by
 obtain⟨a,_⟩:=h;have h1:mid 9218868437227405311*Y≤mid (r-1)*Y:=Nat.mul_le_mul_right _ (mid_le (by omega));rcases a with a|a|⟨a,_⟩
 ·omega
 ·omega
 ·omega
theorem rnd_small {X Y r:Nat} (hY:0<Y) (h:Rnd X Y r) (hr:r<9218868437227405312):2*X<mid 9218868437227405311*Y:=by
 obtain⟨_,b⟩:=h;rcases Nat.lt_or_ge r 9218868437227405311 with h1|h1
 ·have:=(Nat.mul_lt_mul_right hY).2 (mid_lt h1)
  omega
 ·have hr2:r=9218868437227405311:=by omega
  subst hr2;rcases b with b|⟨_,b⟩
  ·exact b
  ·omega
theorem big_iff (N Y:Nat):mid 9218868437227405311*Y≤2*(N*p2 1074)↔num bnd*Y≤N:=by
 rw[bnd_mid,Nat.mul_assoc 2,Nat.mul_right_comm (num bnd) (p2 1074) Y];have hp:=p2_pos 1074;generalize num bnd*Y=a;generalize p2 1074=q at*;constructor
 ·intro h
  exact Nat.le_of_mul_le_mul_right (by omega:a*q≤N*q) hp
 ·intro h
  have:=Nat.mul_le_mul_right q h;omega
theorem less_iff (D:List Nat) (hD:Digs D):dLess D bnd=true↔num D*p10 (309-(D.length:Int)).toNat<num bnd*p10 ((D.length:Int)-309).toNat:=by
 rw[dLess_iff D bnd hD bnd_digs bnd_last,bnd_len];rcases Nat.lt_or_ge D.length 309 with h|h
 ·rw[show((D.length:Int)-309).toNat=0 by omega,show p10 0=1 from rfl,Nat.mul_one]
  have e:p10 309=p10 (309-(D.length:Int)).toNat*p10 D.length:=by rw[←p10_add,show(309-(D.length:Int)).toNat+D.length=309 by omega]
  rw[e,←Nat.mul_assoc];exact Nat.mul_lt_mul_right (p10_pos _)
 ·rw[show(309-(D.length:Int)).toNat=0 by omega,show p10 0=1 from rfl,Nat.mul_one]
  have e:p10 D.length=p10 ((D.length:Int)-309).toNat*p10 309:=by rw[←p10_add,show((D.length:Int)-309).toNat+309=D.length by omega]
  rw[e,←Nat.mul_assoc];exact Nat.mul_lt_mul_right (p10_pos _)
theorem near_lt {D:List Nat} {P:Int} {r:Nat} (hD:Digs D) (hP':D≠[]→P≤309) (ho:oor D P=false) (h:NearOf D P r):r<9218868437227405312:=by
 rcases Nat.lt_or_ge r 9218868437227405312 with h1|h1
 ·exact h1
 exfalso;obtain⟨a,_,c⟩:=h;have hne:D≠[]:=fun h0=>by have:=a (.inl h0);omega
 have hP:=hP' hne;have hlo:¬P< -323:=fun h0=>by have:=a (.inr h0);omega
 have hb:=(big_iff _ _).1 (rnd_big (c hne hlo (by omega)) h1);by_cases hp:P<309
 ·have n1:=num_lt D hD
  have k1:num D*p10 (P-D.length).toNat<p10 (D.length+(P-D.length).toNat):=by rw[p10_add];exact Nat.mul_lt_mul_of_pos_right n1 (p10_pos _)
  have k2:p10 (D.length+(P-D.length).toNat)≤p10 (308+(D.length-P).toNat):=p10_le _ _ (by omega);rw[p10_add 308]at k2;have k3:=Nat.mul_le_mul_right (p10 (D.length-P).toNat) bnd_big;omega
 ·have hp9:P=309:=by omega
  subst hp9;rw[oor,if_neg (by intro h;rcases h with h|h;exact hne h;omega),if_neg (by omega)]at ho
  have hl:dLess D bnd=true:=by cases hd:dLess D bnd
                               ·rw[hd]at ho;cases ho
                               ·rfl
  have:=(less_iff D hD).1 hl;omega
theorem oor_no {D:List Nat} {P:Int} {n:Nat} (hD:Digs D) (hP:P≤309) (h:Rnd (num D*p10 (P-D.length).toNat*p2 1074) (p10 (D.length-P).toNat) n) (hn:n<9218868437227405312):oor D P=false:=by
 unfold oor;by_cases h1:D=[]∨P<309
 ·rw[if_pos h1]
 ·have hp9:P=309:=by omega
  subst hp9;rw[if_neg h1,if_neg (by omega)];have:=rnd_small (p10_pos _) h hn
  have hl:dLess D bnd=true:=by
   rw[less_iff D hD];rcases Nat.lt_or_ge (num D*p10 (309-(D.length:Int)).toNat) (num bnd*p10 ((D.length:Int)-309).toNat)with h2|h2
   ·exact h2
   ·have:=(big_iff _ _).2 h2
    omega
  rw[hl];rfl
def NearV (D:List Nat) (P:Int) (r:Nat):Prop:=(oor D P=true→r=9218868437227405312)∧(oor D P=false→NearOf D P r∧r<9218868437227405312)
theorem NearV.far {D:List Nat} {P Q:Int} {r:Nat} (h:NearV D P r) (he:P=Q∨(309<P∧309<Q)∨(P< -323∧Q< -323)):NearV D Q r:=by
 rcases he with rfl|⟨h1,h2⟩|⟨h1,h2⟩
 ·exact h
 ·by_cases hD:D=[]
  ·have e:∀x,oor D x=false:=fun x=>by rw[oor,if_pos (.inl hD)]
   refine⟨fun h0=>(by rw[e]at h0;cases h0),fun _=>?_⟩;have:=h.2 (e _);refine⟨⟨fun _=>this.1.1 (.inl hD),fun h0=>absurd hD h0,fun h0=>absurd hD h0⟩,this.2⟩
  ·have e:∀x:Int,309<x→oor D x=true:=fun x hx=>by rw[oor,if_neg (by intro h;rcases h with h|h;exact hD h;omega),if_pos hx]
   exact⟨fun _=>h.1 (e _ h1),fun h0=>(by rw[e _ h2]at h0;cases h0)⟩
 ·have e:∀x:Int,x< -323→oor D x=false:=fun x hx=>by rw[oor,if_pos (.inr (by omega))]
  refine⟨fun h0=>(by rw[e _ h2]at h0;cases h0),fun _=>?_⟩;have:=h.2 (e _ h1);exact⟨⟨fun _=>this.1.1 (.inr h1),fun _ h0=>absurd h2 h0,fun _ h0=>absurd h2 h0⟩,this.2⟩
end Go.Proofs.YtmkkibaacclhnaaGreatDoor
