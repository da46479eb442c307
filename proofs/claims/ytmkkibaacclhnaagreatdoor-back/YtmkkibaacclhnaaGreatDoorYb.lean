/-
  A step of the walk, the part named Yb. No theorem of the row.
-/
import Derived.Test.YtmkkibaacclhnaaGreatDoorVj
import Derived.Test.YtmkkibaacclhnaaGreatDoorYa
import Derived.Test.YtmkkibaacclhnaaGreatDoorRe
namespace Go.Proofs.YtmkkibaacclhnaaGreatDoor
open Go.RowKit
set_option maxRecDepth 100000
set_option maxHeartbeats 16000000
theorem szO_none {n:Nat} (h:n=0):szO n=none:=if_pos h
theorem szO_some {n:Nat} (h:n≠0):szO n=some n:=if_neg h
theorem partsG_arr {sz:List Im→Nat} {c:Nat} {l:List Im}:partsG sz false (c+1) l=if sz l=0 then none else(partsG sz false c (l.drop (sz l))).map (fun m=>sz l+m):=by
 conv=>lhs;unfold partsG
 rw[if_neg (by simp)]
theorem map_map_add (o:Option Nat) (a b:Nat):(o.map (fun m=>a+m)).map (fun m=>b+m)=o.map (fun m=>(b+a)+m):=by
 cases o with
 |none=>rfl
 |some v=>simp[Nat.add_assoc]
theorem box_keep {w wr:World} {o g:Nat} {v0 v1 v2 v3:Value} (hF:Fr (fun i=>i=o∨i=g) (w.alloc (.cells #[v0,v1,v2,v3] 29)) wr) (ho:o<w.heap.size) (hg:g<w.heap.size):wr.cell? ⟨w.heap.size,0,none⟩=some v0∧wr.cell? ⟨w.heap.size,1,none⟩=some v1:=by
 have hn:=heap_alloc_new w (.cells #[v0,v1,v2,v3] 29);have hk:wr.heap[w.heap.size]? =some (.cells #[v0,v1,v2,v3] 29 (0,0)):=hF.heap hn (by omega);exact⟨blk_cell hk rfl,blk_cell hk rfl⟩
theorem OL.lts {w:World} {o g ig cap:Nat} {its:List Im} {beh:List Nat} {nx:Nat} (h:OL w o g ig cap its beh nx):o<w.heap.size∧g<w.heap.size:=⟨lt_of_block h.blk,lt_of_row h.row⟩
theorem inside_arr (d:Nat) (IH:ValOk d) (w:World) (o g ig cap:Nat) (its:List Im) (beh:List Nat) (nx N b:Nat) (s:List UInt8) (h:OL w o g ig cap its beh nx) (hl:its.length≤10000000) (hs:∀x,x∈its→x.s.length≤100000000) (hb:Bok its) (hd:d≤1000):
 Calls Tryz.prog 70 #[.pointer (some ⟨o,0,none⟩),.agg #[.int .i64 5,.int .i64 (N:Int),.int .u64 (b:Int),.string (ofL s)],.int .i64 (d:Int)] w (VDone w o g ig cap its beh nx (partsG (sizeD d) false N (its.drop nx))):=by
 obtain⟨PG,hPG⟩:∃PG,partsG (sizeD d) false N (its.drop nx)=PG:=⟨_,rfl⟩;rw[hPG];obtain⟨lo,lg⟩:=h.lts;have HA:=hid (fun wx hf=>OPost.same (w':=wx) h hf);have HBX:=hid (fun wr (hF:Fr (fun i=>i=o∨i=g) (w.alloc (.cells #[.int .i64 5,.int .i64 (N:Int),.int .u64 (b:Int),.string (ofL s)] 29)) wr)=>box_keep hF lo lg);have HFA:=hid ((Fr.refl (fun _=>False) w).alloc (.cells #[.int .i64 5,.int .i64 (N:Int),.int .u64 (b:Int),.string (ofL s)] 29));have HV:=hid (fun wx beh' nx' (hx:OL wx o g ig cap its beh' nx')=>IH wx o g ig cap its beh' nx' hx hl hs hb hd);have H0:=hid (show(partsG (sizeD d) false (N-0) (its.drop (nx+0))).map (fun m=>0+m)=PG by rw[←hPG];simp);have HB0:=hid (BhOk.nil beh its nx);have HP0:=hid (OPost.refl (h.fr HFA.out));have hnx:=h.nxle;clear h IH hs hb hPG lo lg;go_enter Tryz.func70,Tryz.ntmps70;go_wp2
 go_loopw [9] (fun sv wr=>∃(i k:Nat) (b':List Nat),sv=.int .i64 (i:Int)∧i≤N∧i≤k∧k≤10000000∧Hid (OPost (w.alloc (.cells #[.int .i64 5,.int .i64 (N:Int),.int .u64 (b:Int),.string (ofL s)] 29)) wr o g ig cap its beh nx b' (nx+k))∧Hid (BhOk b' its nx (nx+k))∧Hid ((partsG (sizeD d) false (N-i) (its.drop (nx+k))).map (fun m=>k+m)=PG)) (fun sv _=>N-(intOf sv).toNat)
 case atStart=>exact⟨0,0,beh,rfl,Nat.zero_le _,Nat.zero_le _,Nat.zero_le _,HP0,HB0,H0⟩
 case round=>
  clear HP0 HB0 H0;obtain⟨i,k,b',rfl,hiN,hik,hk,HP,HB,HG⟩:=hrel;obtain⟨x0,-⟩:=HBX.out _ HP.out.fr;by_cases hi:i<N
  ·have hz:(i:Int)<(N:Int):=by omega
   obtain⟨c,hc⟩:∃c,N-i=c+1:=⟨N-i-1,by omega⟩;have HG1:=hid (show(partsG (sizeD d) false (c+1) (its.drop (nx+k))).map (fun m=>k+m)=PG by rw[←hc];exact HG.out);clear HG;have HC:=hid (HV.out _ _ _ HP.out.ol);by_cases hsz:sizeD d (its.drop (nx+k))=0
   ·rw[szO_none hsz]at HC
    have HPG:=hid (show PG=none by rw[←HG1.out,partsG_arr,if_pos hsz];rfl);clear HG1 hsz
    go_wp2_with (first|(go_at_call 41;refine Calls.mono HC.out ?_;rintro e w2 ⟨rfl,b2,n2,hp⟩;have HP2:=hid hp;clear hp)|fail)
    go_ret;rw[HPG.out];exact⟨rfl,b2,n2,((HA.out _ HFA.out).trans HP.out).trans HP2.out⟩
   ·rw[szO_some hsz]at HC
    obtain⟨m,hm⟩:∃m,sizeD d (its.drop (nx+k))=m:=⟨_,rfl⟩
    have HG2:=hid (show(partsG (sizeD d) false c (its.drop (nx+(k+m)))).map (fun q=>(k+m)+q)=PG by
     rw[←HG1.out,partsG_arr,if_neg hsz,map_map_add,hm,List.drop_drop,Nat.add_assoc])
    have hm1:1≤m:=by omega
    have hmle:k+m≤10000000:=by
     have h1:=sizeD_le d (its.drop (nx+k));rw[hm,List.length_drop]at h1;have h2:=HP.out.ol.nxle;omega
    rw[hm]at HC;clear HG1 hsz hm
    go_wp2_with (first|(go_at_call 41;refine Calls.mono HC.out ?_;rintro e w2 ⟨rfl,b2,hp,hbk⟩;have HP2:=hid hp;have HB2:=hid hbk;clear hp hbk)|fail)
    go_roundw
    case rel=>
     refine⟨i+1,k+m,b2,by simp,by omega,by omega,hmle,hid ?_,hid ?_,hid ?_⟩
     ·have:=HP.out.trans HP2.out;rw[Nat.add_assoc]at this;exact this
     ·have:=HB.out.join HB2.out HP2.out.low;rw[Nat.add_assoc]at this;exact this
     ·rw[show N-(i+1)=c by omega];exact HG2.out
    case measure=>simp only[intOf];omega
  ·obtain rfl:i=N:=by omega
   have hz:¬(i:Int)<(i:Int):=by omega
   have HPG:=hid (show PG=some k by rw[←HG.out,Nat.sub_self];rfl);clear HG;go_wp2;go_ret;rw[HPG.out];exact⟨rfl,b',(HA.out _ HFA.out).trans HP.out,HB.out⟩
def keyR:List Im→Option Nat
 |[]=>none
 |x::_=>if x.k=4∧goodI x=true then some 1 else none
def KeyOk:Prop:=∀(w:World) (o g ig cap:Nat) (its:List Im) (beh:List Nat) (nx:Nat),OL w o g ig cap its beh nx→its.length≤10000000→(∀x,x∈its→x.s.length≤100000000)→Bok its→
 Calls Tryz.prog 124 #[.pointer (some ⟨o,0,none⟩)] w (VDone w o g ig cap its beh nx (keyR (its.drop nx)))
theorem partsG_obj_no {sz:List Im→Nat} {c:Nat} {l:List Im} (h:keyR l=none):partsG sz true (c+1) l=none:=by
 unfold partsG;rw[if_pos rfl];cases l with
 |nil=>rfl
 |cons x r=>
  unfold keyR at h;simp only at h ⊢;by_cases hk:x.k=4∧goodI x=true
  ·rw[if_pos hk]at h;cases h
  ·rw[if_neg hk]
theorem partsG_obj {sz:List Im→Nat} {c:Nat} {l:List Im} (h:keyR l≠none):keyR l=some 1∧partsG sz true (c+1) l=if sz (l.drop 1)=0 then none else(partsG sz true c ((l.drop 1).drop (sz (l.drop 1)))).map (fun m=>1+sz (l.drop 1)+m):=by
 cases l with
 |nil=>exact absurd rfl h
 |cons x r=>
  unfold keyR at h ⊢;simp only at h ⊢;by_cases hk:x.k=4∧goodI x=true
  ·rw[if_pos hk]
   refine⟨rfl,?_⟩
   conv=>lhs;unfold partsG
   simp only[if_true,hk,and_self,List.drop_succ_cons,List.drop_zero]
  ·rw[if_neg hk]at h;exact absurd rfl h
theorem inside_obj (d:Nat) (IH:ValOk d) (KH:KeyOk) (w:World) (o g ig cap:Nat) (its:List Im) (beh:List Nat) (nx N b:Nat) (s:List UInt8) (h:OL w o g ig cap its beh nx) (hl:its.length≤10000000) (hs:∀x,x∈its→x.s.length≤100000000) (hb:Bok its) (hd:d≤1000):
 Calls Tryz.prog 70 #[.pointer (some ⟨o,0,none⟩),.agg #[.int .i64 6,.int .i64 (N:Int),.int .u64 (b:Int),.string (ofL s)],.int .i64 (d:Int)] w (VDone w o g ig cap its beh nx (partsG (sizeD d) true N (its.drop nx))):=by
 obtain⟨PG,hPG⟩:∃PG,partsG (sizeD d) true N (its.drop nx)=PG:=⟨_,rfl⟩;rw[hPG];obtain⟨lo,lg⟩:=h.lts;have HA:=hid (fun wx hf=>OPost.same (w':=wx) h hf);have HBX:=hid (fun wr (hF:Fr (fun i=>i=o∨i=g) (w.alloc (.cells #[.int .i64 6,.int .i64 (N:Int),.int .u64 (b:Int),.string (ofL s)] 29)) wr)=>box_keep hF lo lg);have HFA:=hid ((Fr.refl (fun _=>False) w).alloc (.cells #[.int .i64 6,.int .i64 (N:Int),.int .u64 (b:Int),.string (ofL s)] 29));have HV:=hid (fun wx beh' nx' (hx:OL wx o g ig cap its beh' nx')=>IH wx o g ig cap its beh' nx' hx hl hs hb hd);have HKy:=hid (fun wx beh' nx' (hx:OL wx o g ig cap its beh' nx')=>KH wx o g ig cap its beh' nx' hx hl hs hb);have H0:=hid (show(partsG (sizeD d) true (N-0) (its.drop (nx+0))).map (fun m=>0+m)=PG by rw[←hPG];simp);have HB0:=hid (BhOk.nil beh its nx);have HP0:=hid (OPost.refl (h.fr HFA.out));have hnx:=h.nxle;clear h IH KH hs hb hPG lo lg;go_enter Tryz.func70,Tryz.ntmps70;go_wp2
 go_loopw [9] (fun sv wr=>∃(i k:Nat) (b':List Nat),sv=.int .i64 (i:Int)∧i≤N∧i≤k∧k≤10000000∧Hid (OPost (w.alloc (.cells #[.int .i64 6,.int .i64 (N:Int),.int .u64 (b:Int),.string (ofL s)] 29)) wr o g ig cap its beh nx b' (nx+k))∧Hid (BhOk b' its nx (nx+k))∧Hid ((partsG (sizeD d) true (N-i) (its.drop (nx+k))).map (fun m=>k+m)=PG)) (fun sv _=>N-(intOf sv).toNat)
 case atStart=>exact⟨0,0,beh,rfl,Nat.zero_le _,Nat.zero_le _,Nat.zero_le _,HP0,HB0,H0⟩
 case round=>
  clear HP0 HB0 H0;obtain⟨i,k,b',rfl,hiN,hik,hk,HP,HB,HG⟩:=hrel;obtain⟨x0,-⟩:=HBX.out _ HP.out.fr;by_cases hi:i<N
  ·have hz:(i:Int)<(N:Int):=by omega
   obtain⟨c,hc⟩:∃c,N-i=c+1:=⟨N-i-1,by omega⟩;have HG1:=hid (show(partsG (sizeD d) true (c+1) (its.drop (nx+k))).map (fun m=>k+m)=PG by rw[←hc];exact HG.out);clear HG;have HC:=hid (HKy.out _ _ _ HP.out.ol);by_cases hky:keyR (its.drop (nx+k))=none
   ·rw[hky]at HC
    have HPG:=hid (show PG=none by rw[←HG1.out,partsG_obj_no hky];rfl);clear HG1 hky
    go_wp2_with (first|(go_at_call 124;refine Calls.mono HC.out ?_;rintro e w2 ⟨rfl,b2,n2,hp⟩;have HP2:=hid hp;clear hp)|fail)
    go_ret;rw[HPG.out];exact⟨rfl,b2,n2,((HA.out _ HFA.out).trans HP.out).trans HP2.out⟩
   ·obtain⟨hk1,hpo⟩:=partsG_obj (sz:=sizeD d) (c:=c) hky
    rw[hk1]at HC;have HPO:=hid hpo;clear hky hk1 hpo
    go_wp2_with (first|(go_at_call 124;refine Calls.mono HC.out ?_;rintro e w2 ⟨rfl,b2,hp,hbk⟩;have HP2:=hid (HP.out.trans hp);have HB2:=hid (HB.out.join hbk hp.low);clear hp hbk)|fail)
    have HC2:=hid (HV.out _ _ _ HP2.out.ol);by_cases hsz:sizeD d (its.drop (nx+k+1))=0
    ·rw[szO_none hsz]at HC2
     have HPG:=hid (show PG=none by rw[←HG1.out,HPO.out,List.drop_drop,if_pos hsz];rfl);clear HG1 hsz HPO;refine Calls.mono HC2.out ?_;rintro e w3 ⟨rfl,b3,n3,hp⟩;have HP3:=hid hp;clear hp;go_wp2;go_ret;rw[HPG.out];exact⟨rfl,b3,n3,((HA.out _ HFA.out).trans HP2.out).trans HP3.out⟩
    ·rw[szO_some hsz]at HC2
     obtain⟨m,hm⟩:∃m,sizeD d (its.drop (nx+k+1))=m:=⟨_,rfl⟩
     have HG2:=hid (show(partsG (sizeD d) true c (its.drop (nx+(k+1+m)))).map (fun q=>(k+1+m)+q)=PG by
      rw[←HG1.out,HPO.out,List.drop_drop,if_neg hsz,map_map_add,hm,List.drop_drop]
      simp only[Nat.add_assoc])
     have hmle:k+1+m≤10000000:=by
      have h1:=sizeD_le d (its.drop (nx+k+1));rw[hm,List.length_drop]at h1;have h2:=HP2.out.ol.nxle;omega
     rw[hm]at HC2;clear HG1 hsz hm HPO;refine Calls.mono HC2.out ?_;rintro e w3 ⟨rfl,b3,hp,hbk⟩;have HP3:=hid (HP2.out.trans hp);have HB3:=hid (HB2.out.join hbk hp.low);clear hp hbk;go_wp2;go_roundw
     case rel=>
      refine⟨i+1,k+1+m,b3,by simp,by omega,by omega,hmle,hid ?_,hid ?_,hid ?_⟩
      ·have:=HP3.out;simp only[Nat.add_assoc]at this ⊢;exact this
      ·have:=HB3.out;simp only[Nat.add_assoc]at this ⊢;exact this
      ·rw[show N-(i+1)=c by omega];exact HG2.out
     case measure=>simp only[intOf];omega
  ·obtain rfl:i=N:=by omega
   have hz:¬(i:Int)<(i:Int):=by omega
   have HPG:=hid (show PG=some k by rw[←HG.out,Nat.sub_self];rfl);clear HG;go_wp2;go_ret;rw[HPG.out];exact⟨rfl,b',(HA.out _ HFA.out).trans HP.out,HB.out⟩
def toIm (x:It):Im:=⟨(x.k:Int),(x.n:Int),x.b,x.s⟩
def ims (l:List It):List Im:=l.map toIm
theorem ims_append (a b:List It):ims (a++b)=ims a++ims b:=by simp[ims]
theorem ims_length (a:List It):(ims a).length=a.length:=by simp[ims]
theorem parseV_good {neg:Bool} {r:Nat} (h:(parseV neg r).2=0):(parseV neg r).1<18446744073709551616∧(parseV neg r).1 % 9223372036854775808<9218868437227405312:=by
 unfold parseV at h ⊢;split at h
 ·cases h
 ·rename_i hr
  rw[if_neg hr];cases neg
  ·simp only[Bool.false_eq_true,if_false];omega
  ·simp only[if_true];omega
theorem tokV_good {t:Tk} (h:(tokV t).2=0):(tokV t).1<18446744073709551616∧(tokV t).1 % 9223372036854775808<9218868437227405312:=by
 unfold tokV at h ⊢;split at h
 ·rename_i hE
  rw[if_pos hE];exact parseV_good h
 ·cases h
theorem good_text {s:List UInt8} (h:isU s=true):goodI (toIm ⟨4,0,0,s⟩)=true:=by
 unfold goodI toIm;simp[h]
theorem good_num {b:Nat} (h:b % 9223372036854775808<9218868437227405312):goodI (toIm ⟨3,0,b,[]⟩)=true:=by
 unfold goodI toIm;simp[h]
theorem good_word {k:Nat} (h:k=0∨k=1∨k=2):goodI (toIm ⟨k,0,0,[]⟩)=true:=by
 unfold goodI toIm;rcases h with rfl|rfl|rfl<;>simp
theorem good_nest {k n:Nat} (h:k=5∨k=6):goodI (toIm ⟨k,n,0,[]⟩)=true:=by
 unfold goodI toIm;rcases h with rfl|rfl<;>simp
theorem size_one {d:Nat} {x:It} {T:List Im} (hg:goodI (toIm x)=true) (hk:x.k<5):sizeD d (ims [x]++T)=1:=by
 have hk2:(toIm x).k<5:=by show(x.k:Int)<5;omega
 show sizeD d (toIm x::T)=1
 cases d with
 |zero=>rw[sizeD,if_pos ⟨hg,hk2⟩]
 |succ d=>rw[sizeD,if_pos hg,if_pos hk2]
def RVok (depth inn:Nat) (m:Md):RV→Prop
 |.ok n its _=>Bok (ims its)∧match m with
  |.val=>its≠[]∧∀T,sizeD (depth-inn) (ims its++T)=its.length
  |.vals=>∀T,partsG (sizeD (depth-inn)) false n (ims its++T)=some its.length
  |.pairs=>∀T,partsG (sizeD (depth-inn)) true n (ims its++T)=some its.length
  |.pair=>∀T,partsG (sizeD (depth-inn)) true 1 (ims its++T)=some its.length
  |.valsGo n0 acc=>∃new,its=acc++new∧n0≤n∧∀T,partsG (sizeD (depth-inn)) false (n-n0+1) (ims new++T)=some new.length
  |.pairsGo n0 acc=>∃new,its=acc++new∧n0≤n∧∀T,partsG (sizeD (depth-inn)) true (n-n0+1) (ims new++T)=some new.length
 |_=>True
theorem Bok.append {a b:List Im} (ha:Bok a) (hb:Bok b):Bok (a++b):=fun x hx=>(List.mem_append.1 hx).elim (ha x) (hb x)
theorem bok_one {x:It} (h:x.b<18446744073709551616):Bok (ims [x]):=by
 intro y hy;simp[ims]at hy;subst hy;exact h
theorem parts_arr1 {sz:List Im→Nat} {A T:List Im} {c:Nat} (h:∀T,sz (A++T)=A.length) (hA:A≠[]):partsG sz false (c+1) (A++T)=(partsG sz false c T).map (fun m=>A.length+m):=by
 have h0:A.length≠0:=by simpa using hA
 rw[partsG_arr,h,if_neg h0,List.drop_left'];rfl
theorem parts_obj1 {sz:List Im→Nat} {A T:List Im} {c:Nat} (h:∀T,partsG sz true 1 (A++T)=some A.length):partsG sz true (c+1) (A++T)=(partsG sz true c T).map (fun m=>A.length+m):=by
 have h1:=h T;by_cases hk:keyR (A++T)=none
 ·rw[partsG_obj_no hk]at h1;cases h1
 ·obtain⟨-,e1⟩:=partsG_obj (sz:=sz) (c:=0) hk
  obtain⟨-,e2⟩:=partsG_obj (sz:=sz) (c:=c) hk;rw[e1]at h1;rw[e2];by_cases h0:sz ((A++T).drop 1)=0
  ·rw[if_pos h0]at h1;cases h1
  ·rw[if_neg h0]at h1 ⊢
   have hl:1+sz ((A++T).drop 1)=A.length:=by
    simp only[partsG,Option.map_some,Option.some.injEq]at h1;omega
   rw[List.drop_drop,hl,List.drop_left' rfl]
theorem pair_obj {sz:List Im→Nat} {x:Im} {A T:List Im} (hk:x.k=4) (hg:goodI x=true) (h:sz (A++T)=A.length) (hA:A≠[]):partsG sz true 1 (x::A++T)=some (A.length+1):=by
 have h0:A.length≠0:=by simpa using hA
 have hky:keyR (x::A++T)≠none:=by
  show(if x.k=4∧goodI x=true then some 1 else none)≠none
  rw[if_pos ⟨hk,hg⟩];simp
 obtain⟨-,e1⟩:=partsG_obj (sz:=sz) (c:=0) hky;rw[e1];have hd:(x::A++T).drop 1=A++T:=rfl;rw[hd,h,if_neg h0];simp only[partsG,Option.map_some,Option.some.injEq];omega
theorem size_nest {d n:Nat} {k:Nat} {its:List It} {T:List Im} (hk:k=5∨k=6) (h:partsG (sizeD d) (decide (k=6)) n (ims its++T)=some its.length):sizeD (d+1) (ims (⟨k,n,0,[]⟩::its)++T)=its.length+1:=by
 have e:decide (((toIm ⟨k,n,0,[]⟩).k)=6)=decide (k=6):=by
  show decide ((k:Int)=6)=_
  rcases hk with rfl|rfl<;>rfl
 show sizeD (d+1) (toIm ⟨k,n,0,[]⟩::(ims its++T))=_
 rw[sizeD,if_pos (good_nest hk),if_neg (by show¬((k:Int)<5);omega),e,show(toIm ⟨k,n,0,[]⟩).n.toNat=n from Int.toNat_natCast n,h];rfl
theorem rGo_good (depth f inn:Nat) (m:Md) (r:List UInt8) (hinn:inn≤depth) (hacc:∀n acc,m=.valsGo n acc∨m=.pairsGo n acc→Bok (ims acc)):RVok depth inn m (rGo depth f inn m r):=by
 induction f generalizing inn m r with
 |zero=>trivial
 |succ f ih=>
  have none0:∀m:Md,(m=.val∨m=.vals∨m=.pairs∨m=.pair)→∀n acc,m=.valsGo n acc∨m=.pairsGo n acc→Bok (ims acc):=by
   rintro m (rfl|rfl|rfl|rfl) n acc (h|h)<;>cases h
  rw[rGo.eq_def];cases m with
  |val=>
   simp only;cases hx:skipB r with
   |nil=>trivial
   |cons c q=>
    simp only;split
    ·unfold textV
     cases ht:trRun tr0 q with
     |wrong n p=>trivial
     |ended=>trivial
     |ok s p=>exact⟨bok_one (by show 0<_;omega),by simp,fun T=>size_one (good_text (read_text ht)) (by show 4<5;omega)⟩
    ·split
     ·split
      ·trivial
      ·rename_i hne
       have h1:=ih (inn+1) .vals q (by omega) (none0 _ (.inr (.inl rfl)));cases hr:rGo depth f (inn+1) .vals q with
       |wrong n p=>trivial
       |ended l=>trivial
       |ok n its p=>
        rw[hr]at h1;obtain⟨hb,h1⟩:=h1;refine⟨Bok.append (a:=ims [_]) (bok_one (by show 0<_;omega)) hb,by simp,fun T=>?_⟩;rw[show depth-inn=(depth-(inn+1))+1 by omega];exact size_nest (.inl rfl) (h1 T)
     ·split
      ·split
       ·trivial
       ·rename_i hne
        have h1:=ih (inn+1) .pairs q (by omega) (none0 _ (.inr (.inr (.inl rfl))));cases hr:rGo depth f (inn+1) .pairs q with
        |wrong n p=>trivial
        |ended l=>trivial
        |ok n its p=>
         rw[hr]at h1;obtain⟨hb,h1⟩:=h1;refine⟨Bok.append (a:=ims [_]) (bok_one (by show 0<_;omega)) hb,by simp,fun T=>?_⟩;rw[show depth-inn=(depth-(inn+1))+1 by omega];exact size_nest (.inr rfl) (h1 T)
      ·split
       ·unfold numOut
        cases ht:tkRun t0 (c::q)with
        |lost p=>trivial
        |stop t p=>
         simp only;split
         ·trivial
         ·rename_i h0
          obtain⟨g1,g2⟩:=tokV_good (t:=t) (by omega);exact⟨bok_one g1,by simp,fun T=>size_one (good_num g2) (by show 3<5;omega)⟩
        |ended t=>
         simp only;split
         ·rename_i h0
          obtain⟨g1,g2⟩:=tokV_good (t:=t) h0;exact⟨bok_one g1,by simp,fun T=>size_one (good_num g2) (by show 3<5;omega)⟩
         ·trivial
       ·have hw:∀(k:Nat) (w p:List UInt8),k=0∨k=1∨k=2→RVok depth inn .val (wordV k w p):=by
         intro k w p hk;unfold wordV;cases wordGo w p with
         |wrong n p=>trivial
         |ended=>trivial
         |ok s p=>exact⟨bok_one (by show 0<_;omega),by simp,fun T=>size_one (good_word hk) (by show k<5;omega)⟩
        split
        ·exact hw 0 _ _ (.inl rfl)
        ·split
         ·exact hw 1 _ _ (.inr (.inl rfl))
         ·split
          ·exact hw 2 _ _ (.inr (.inr rfl))
          ·trivial
  |vals=>
   simp only;cases hx:skipB r with
   |nil=>trivial
   |cons c q=>
    simp only;split
    ·exact⟨by intro x hx;simp[ims]at hx,fun T=>rfl⟩
    ·have h1:=ih inn (.valsGo 1 []) (c::q) hinn (by rintro n acc (h|h)<;>cases h;intro x hx;simp[ims]at hx)
     cases hr:rGo depth f inn (.valsGo 1 []) (c::q)with
     |wrong n p=>trivial
     |ended l=>trivial
     |ok n its p=>
      rw[hr]at h1;obtain⟨hb,new,e1,e2,e3⟩:=h1;rw[List.nil_append]at e1;subst e1;refine⟨hb,fun T=>?_⟩;rw[show n=n-1+1 by omega];exact e3 T
  |pairs=>
   simp only;cases hx:skipB r with
   |nil=>trivial
   |cons c q=>
    simp only;split
    ·exact⟨by intro x hx;simp[ims]at hx,fun T=>rfl⟩
    ·have h1:=ih inn (.pairsGo 1 []) (c::q) hinn (by rintro n acc (h|h)<;>cases h;intro x hx;simp[ims]at hx)
     cases hr:rGo depth f inn (.pairsGo 1 []) (c::q)with
     |wrong n p=>trivial
     |ended l=>trivial
     |ok n its p=>
      rw[hr]at h1;obtain⟨hb,new,e1,e2,e3⟩:=h1;rw[List.nil_append]at e1;subst e1;refine⟨hb,fun T=>?_⟩;rw[show n=n-1+1 by omega];exact e3 T
  |valsGo n acc=>
   simp only;have ha:=hacc n acc (.inl rfl);have h1:=ih inn .val r hinn (none0 _ (.inl rfl));cases hy:rGo depth f inn .val r with
   |wrong e q=>trivial
   |ended l=>trivial
   |ok a its p=>
    rw[hy]at h1;obtain⟨hb,hne,h1⟩:=h1;have hi:ims its≠[]:=by simpa[ims]using hne
    have hs:∀T,sizeD (depth-inn) (ims its++T)=(ims its).length:=fun T=>by rw[h1 T,ims_length]
    simp only;cases hx:skipB p with
    |nil=>trivial
    |cons c q=>
     simp only;split
     ·refine⟨by rw[ims_append];exact ha.append hb,its,rfl,Nat.le_refl _,fun T=>?_⟩
      rw[Nat.sub_self,parts_arr1 hs hi];simp[partsG,ims_length]
     ·split
      ·have hacc2:Bok (ims (acc++its)):=by rw[ims_append];exact ha.append hb
       have h2:=ih inn (.valsGo (n+1) (acc++its)) q hinn (by
        rintro n' acc' (h|h)
        ·cases h;exact hacc2
        ·cases h)
       cases hr:rGo depth f inn (.valsGo (n+1) (acc++its)) q with
       |wrong n p=>trivial
       |ended l=>trivial
       |ok N its' p=>
        rw[hr]at h2;obtain⟨hb2,new,e1,e2,e3⟩:=h2;refine⟨hb2,its++new,by rw[e1,List.append_assoc],by omega,fun T=>?_⟩;rw[ims_append,List.append_assoc,parts_arr1 hs hi,show N-n=N-(n+1)+1 by omega,e3 T];simp[ims_length]
      ·trivial
  |pairsGo n acc=>
   simp only;have ha:=hacc n acc (.inr rfl);have h1:=ih inn .pair r hinn (none0 _ (.inr (.inr (.inr rfl))));cases hy:rGo depth f inn .pair r with
   |wrong e q=>trivial
   |ended l=>trivial
   |ok a its p=>
    rw[hy]at h1;obtain⟨hb,h1⟩:=h1;have hs:∀T,partsG (sizeD (depth-inn)) true 1 (ims its++T)=some (ims its).length:=fun T=>by rw[h1 T,ims_length]
    simp only;cases hx:skipB p with
    |nil=>trivial
    |cons c q=>
     simp only;split
     ·refine⟨by rw[ims_append];exact ha.append hb,its,rfl,Nat.le_refl _,fun T=>?_⟩
      rw[Nat.sub_self];exact h1 T
     ·split
      ·have hacc2:Bok (ims (acc++its)):=by rw[ims_append];exact ha.append hb
       have h2:=ih inn (.pairsGo (n+1) (acc++its)) q hinn (by
        rintro n' acc' (h|h)
        ·cases h
        ·cases h;exact hacc2)
       cases hr:rGo depth f inn (.pairsGo (n+1) (acc++its)) q with
       |wrong n p=>trivial
       |ended l=>trivial
       |ok N its' p=>
        rw[hr]at h2;obtain⟨hb2,new,e1,e2,e3⟩:=h2;refine⟨hb2,its++new,by rw[e1,List.append_assoc],by omega,fun T=>?_⟩;rw[ims_append,List.append_assoc,parts_obj1 hs,show N-n=N-(n+1)+1 by omega,e3 T];simp[ims_length]
      ·trivial
  |pair=>
   simp only;cases hx:skipB r with
   |nil=>trivial
   |cons c q=>
    simp only;split
    ·trivial
    ·cases hy:trRun tr0 q with
     |wrong e p=>trivial
     |ended=>trivial
     |ok s p=>
      simp only;cases hz:skipB p with
      |nil=>trivial
      |cons c2 q2=>
       simp only;split
       ·trivial
       ·have h1:=ih inn .val q2 hinn (none0 _ (.inl rfl))
        cases hw:rGo depth f inn .val q2 with
        |wrong e p=>trivial
        |ended l=>trivial
        |ok a its p2=>
         rw[hw]at h1;obtain⟨hb,hne,h1⟩:=h1;refine⟨Bok.append (a:=ims [_]) (bok_one (by show 0<_;omega)) hb,fun T=>?_⟩;have:=pair_obj (sz:=sizeD (depth-inn)) (x:=toIm ⟨4,0,0,s⟩) (A:=ims its) (T:=T) rfl (good_text (read_text hy)) (by rw[h1 T,ims_length]) (by simpa[ims]using hne);rw[ims_length]at this;exact this
theorem readV_good {d n:Nat} {l p:List UInt8} {its:List It} (h:readV d l=.ok n its p):its≠[]∧sizeD d (ims its)=its.length∧Bok (ims its):=by
 unfold readV at h;have h1:=rGo_good d (4*l.length+1) 0 .val l (Nat.zero_le _) (by rintro n acc (h|h)<;>cases h);cases hr:rGo d (4*l.length+1) 0 .val l with
 |wrong e q=>rw[hr]at h;cases h
 |ended l=>rw[hr]at h;cases h
 |ok a its' p'=>
  rw[hr]at h h1;simp only at h;split at h
  ·cases h
   obtain⟨hb,hne,h1⟩:=h1;have:=h1 [];rw[List.append_nil,Nat.sub_zero]at this;exact⟨hne,this,hb⟩
  ·cases h
end Go.Proofs.YtmkkibaacclhnaaGreatDoor
