/-
  A step of the walk, the part named Dlp. No theorem of the row.
-/
import Derived.Test.YtmkkibaacclhnaaGreatDoorRep
namespace Go.Proofs.YtmkkibaacclhnaaGreatDoor
open Go.RowKit
set_option maxRecDepth 100000
set_option maxHeartbeats 16000000
def dgs (n:Nat):List UInt8:=if n<10 then[UInt8.ofNat (48+n)]else dgs (n/10)++[UInt8.ofNat (48+n % 10)]
termination_by n
decreasing_by omega
theorem dgs_lt {n:Nat} (h:n<10):dgs n=[UInt8.ofNat (48+n)]:=by rw[dgs,if_pos h]
theorem dgs_ge {n:Nat} (h:¬n<10):dgs n=dgs (n/10)++[UInt8.ofNat (48+n % 10)]:=by rw[dgs,if_neg h]
theorem dgs_len (n j:Nat) (h:n<10*10^j):(dgs n).length≤j+1:=by
 induction j generalizing n with
 |zero=>rw[dgs_lt (by simpa using h)];simp
 |succ j ih=>
  by_cases h10:n<10
  ·rw[dgs_lt h10];simp
  ·rw[dgs_ge h10,List.length_append]
   have:=ih (n/10) (by rw[Nat.pow_succ]at h;omega);simp;omega
theorem dgs_len20 (n:Nat) (h:n<18446744073709551616):(dgs n).length≤20:=dgs_len n 19 (by omega)
theorem dgs_pos (n:Nat):0<(dgs n).length:=by
 by_cases h10:n<10
 ·rw[dgs_lt h10];simp
 ·rw[dgs_ge h10,List.length_append];simp
theorem ofNat_dig (m:Nat):((UInt8.ofNat (48+m % 10)).toNat:Int)=48+(m:Int) % 10:=by
 rw[UInt8.toNat_ofNat_of_lt' (by show _<256;omega)];omega
theorem dg_set {xs:List Value} {j:Nat} {v:Value} (hl:xs.length=20) (hj:j<20):(xs.set j v).drop j=v::xs.drop (j+1):=by
 apply List.ext_getElem?;intro i;rw[List.getElem?_drop];cases i with
 |zero=>rw[Nat.add_zero,List.getElem?_set_self (by omega)];rfl
 |succ i=>rw[List.getElem?_set_ne (by omega),List.getElem?_cons_succ,List.getElem?_drop];congr 1;omega
theorem strOf_nums (l:List UInt8):strOfNums (l.map (fun c=>((c.toNat:Nat):Int)))=ofL l:=by
 unfold strOfNums ofL;rw[List.map_map,show((fun n:Int=>UInt8.ofNat n.toNat)∘fun c:UInt8=>((c.toNat:Nat):Int))=id from by funext c;simp,List.map_id]
theorem digitsOf_conv {w:World} {B j m:Nat} {ds:List UInt8} {xs:List Value} (hj:j<20) (hm:m<10) (hl:xs.length=20) (hd:xs.drop (j+1)=ds.map (fun c=>Value.int .u8 (c.toNat:Nat)))
 (ho:w.ownsRow 0 175 1 (.slice (some ⟨B,0,none⟩) 20 20) 20 (xs.set j (.int .u8 (48+(m:Int) % 10)))):
 (convert 65 9 (.slice (some ⟨B,j,none⟩) (20-j) (20-j))).run Tryz.prog w=.ok (.string (ofL ([UInt8.ofNat (48+m)]++ds))) w:=by
 have hlen:ds.length=19-j:=by have:=congrArg List.length hd;simp[hl]at this;omega
 have e:=dg_set (v:=.int .u8 (48+(m:Int) % 10)) hl hj;have hm':=ofNat_dig m;rw[Nat.mod_eq_of_lt hm]at hm'
 have e2:(xs.set j (.int .u8 (48+(m:Int) % 10))).drop j=((UInt8.ofNat (48+m)::ds).map (fun c=>Value.int .u8 (c.toNat:Nat))):=by
  rw[e,hd,List.map_cons,hm']
 have:=run_convert_bytes_arg (P:=Tryz.prog) w 65 5 Tryz.underlying65 Tryz.underlying5 B j (20-j) (20-j) ((UInt8.ofNat (48+m)::ds).map (fun c=>((c.toNat:Nat):Int))) (by simp[hlen];omega) (by
  intro i hi
  show w.cell? _=_
  rw[ho.cellAt (j+i) (by omega),←List.getElem?_drop,e2];have hi':i<(UInt8.ofNat (48+m)::ds).length:=by simp[hlen];omega
  generalize UInt8.ofNat (48+m)::ds=l at hi'
  simp[List.getD,List.getElem?_eq_getElem hi']) 9 Tryz.underlying9
 rw[this,strOf_nums];rfl
theorem digitsOf_slice (B j:Nat) (hj:j<20) (W:World):(Instr.sliceAt 175 (.pointer (some ⟨B,0,none⟩)) (some (.int .i64 (j:Int))) none none).run Tryz.prog W=.ok (.slice (some ⟨B,j,none⟩) (20-j) (20-j)) W:=by
 have hal:Tryz.prog.arrayLen 175=20:=rfl;rw[run_sliceAt_array_l (P:=Tryz.prog) W 175 ⟨B,0,none⟩ Tryz.underlying175 .i64 (j:Int) (by omega) (by rw[hal];omega),hal];rw[show(sizeOf (Tryz.prog.elem 175)).run Tryz.prog W=.ok 1 W from rfl];simp only[Result.andThen_ok,slicedAt];rw[if_neg (by omega)];simp[Addr.add];omega
theorem digitsOf_any (n:Nat) (w:World) (hn:n<18446744073709551616):
 Calls Tryz.prog 63 #[.int .u64 n] w fun e w'=>e=.returned (.string (ofL (dgs n)))∧Fr (fun _=>False) w w':=by
 go_enter Tryz.func63,Tryz.ntmps63;go_wp2
 go_loopw [0,4] (fun nv av wr=>∃(j m:Nat) (ds:List UInt8) (xs:List Value),j<20∧Hid (m<10*10^j)∧m<18446744073709551616∧Hid (dgs n=dgs m++ds)∧nv=.int .u64 m∧av=.int .i64 ((j+1:Nat):Int)∧
  Hid (xs.length=20∧xs.drop (j+1)=ds.map (fun c=>Value.int .u8 (c.toNat:Nat)))∧wr.ownsRow 0 175 1 (.slice (some ⟨w.heap.size,0,none⟩) 20 20) 20 xs∧Fr (fun _=>False) w wr)
  (fun _ av _=>(intOf av).toNat)
 case atStart=>exact⟨19,n,[],_,by omega,hid (by omega),hn,hid (by simp),rfl,rfl,hid ⟨rfl,rfl⟩,⟨rfl,.inr ⟨_,_,_,rfl,Nat.zero_le _,heap_alloc_new _ _,by omega,by decide,rfl,rfl⟩⟩,(Fr.refl _ _).alloc _⟩
 case round=>
  obtain⟨j,m,ds,xs,hj,hm,hm64,hE,rfl,rfl,hX,ho,hF⟩:=hrel;have hxl:=hX.out.1;have hcx:wr.cell? ⟨w.heap.size,j,none⟩=some xs[j]:=by rw[ho.cellAt j (by omega),List.getElem?_eq_getElem (by omega)]
  have hfx:=ho.frozenAt j;by_cases hm10:m<10
  ·have hd0:(m:Int)/10=0:=by omega
   have hsl:=digitsOf_slice w.heap.size j hj;have hst:=(ho.stored j (.int .u8 (48+(m:Int) % 10))).1;have hstF:=hF.setCell (p:=⟨w.heap.size,j,none⟩) (.inr (Nat.le_refl _)) (.int .u8 (48+(m:Int) % 10));have hr:=digitsOf_conv (xs:=xs) hj hm10 (hX.out.1) (hX.out.2) hst;rw[←dgs_lt hm10,←hE.out]at hr;have HE:=hid hE;clear hX ho hF hst hE;go_wp2;go_ret;exact⟨rfl,hstF⟩
  ·have hd0:(((m:Int)/10)==0)=false:=beq_eq_false_iff_ne.2 (by omega)
   go_wp2;go_roundw
   case rel=>
    cases j with
    |zero=>have:=hm.out;omega
    |succ j=>
     refine⟨j,m/10,UInt8.ofNat (48+m % 10)::ds,xs.set (j+1) (.int .u8 (48+(m:Int) % 10)),by omega,hid ?_,by omega,hid ?_,by go_num,rfl,hid ⟨?_,?_⟩,(ho.stored (j+1) _).1,hF.setCell (.inr (Nat.le_refl _)) _⟩
     ·have:=hm.out;rw[Nat.pow_succ]at this;omega
     ·rw[hE.out,dgs_ge hm10];simp
     ·simp[hxl]
     ·rw[dg_set hxl hj,hX.out.2];rw[List.map_cons,ofNat_dig]
   case measure=>show((j:Nat):Int).toNat<((j+1:Nat):Int).toNat;omega
theorem ofL_append (a b:List UInt8):ofL a++ofL b=ofL (a++b):=by
 apply ByteArray.ext;simp[ofL]
def expL (l:List UInt8) (e:Int):List UInt8:=l.take 1++(if 1<l.length then 46::l.drop 1 else[])++(if e<0 then[101,45]++dgs (-e).toNat else[101,43]++dgs e.toNat)
theorem withExponent_any (l:List UInt8) (x:Int) (w:World) (hl0:0<l.length) (hl:l.length≤20) (hx1: -6000≤x) (hx2:x≤6000):
 Calls Tryz.prog 64 #[.string (ofL l),.int .i64 x] w fun e w'=>e=.returned (.string (ofL (expL l x)))∧Fr (fun _=>False) w w':=by
 have hsz:=ofL_size l;have z1:(ofL (l.take 1)).size=1:=by rw[ofL_size,List.length_take];omega
 have z2:(ofL l.tail).size=l.length-1:=by rw[ofL_size,List.length_tail]
 have z3:(ByteArray.mk #[46]).size=1:=rfl;have e1:(ofL l).extract 0 1=ofL (l.take 1):=by rw[ofL_extract,List.drop_zero]
 have e2:(ofL l).extract 1 l.length=ofL (l.drop 1):=by rw[ofL_extract,List.take_length]
 by_cases h1:1<l.length
 ·by_cases hn:x<0
  ·obtain⟨k,rfl⟩:∃k:Nat,x= -(k:Int):=⟨(-x).toNat,by omega⟩
   have z4:(ofL (dgs k)).size≤20:=by rw[ofL_size];exact dgs_len20 k (by omega)
   go_enter Tryz.func64,Tryz.ntmps64
   go_wp2_with fail
   refine(digitsOf_any k _ (by omega)).mono ?_;rintro e w' ⟨rfl,hF⟩;go_wp2;go_ret;refine⟨?_,hF⟩;have hn':(-(k:Int)<0):=by omega
   show Ending.returned (Value.string (ofL (l.take 1)++(ofL [46]++ofL l.tail)++ofL [101,45]++ofL (dgs k)))=_
   simp only[ofL_append];unfold expL;rw[if_pos h1,if_pos hn',show(-(-(k:Int))).toNat=k from by omega];simp
  ·obtain⟨k,rfl⟩:∃k:Nat,x=(k:Int):=⟨x.toNat,by omega⟩
   have z4:(ofL (dgs k)).size≤20:=by rw[ofL_size];exact dgs_len20 k (by omega)
   go_enter Tryz.func64,Tryz.ntmps64
   go_wp2_with fail
   refine(digitsOf_any k _ (by omega)).mono ?_;rintro e w' ⟨rfl,hF⟩;go_wp2;go_ret;refine⟨?_,hF⟩;have hn':¬((k:Int)<0):=by omega
   show Ending.returned (Value.string (ofL (l.take 1)++(ofL [46]++ofL l.tail)++ofL [101,43]++ofL (dgs k)))=_
   simp only[ofL_append];unfold expL;rw[if_pos h1,if_neg hn',show((k:Int)).toNat=k from by omega];simp
 ·by_cases hn:x<0
  ·obtain⟨k,rfl⟩:∃k:Nat,x= -(k:Int):=⟨(-x).toNat,by omega⟩
   have z4:(ofL (dgs k)).size≤20:=by rw[ofL_size];exact dgs_len20 k (by omega)
   go_enter Tryz.func64,Tryz.ntmps64
   go_wp2_with fail
   refine(digitsOf_any k _ (by omega)).mono ?_;rintro e w' ⟨rfl,hF⟩;go_wp2;go_ret;refine⟨?_,hF⟩;have hn':(-(k:Int)<0):=by omega
   show Ending.returned (Value.string (ofL (l.take 1)++ofL [101,45]++ofL (dgs k)))=_
   simp only[ofL_append];unfold expL;rw[if_neg h1,if_pos hn',show(-(-(k:Int))).toNat=k from by omega];simp
  ·obtain⟨k,rfl⟩:∃k:Nat,x=(k:Int):=⟨x.toNat,by omega⟩
   have z4:(ofL (dgs k)).size≤20:=by rw[ofL_size];exact dgs_len20 k (by omega)
   go_enter Tryz.func64,Tryz.ntmps64
   go_wp2_with fail
   refine(digitsOf_any k _ (by omega)).mono ?_;rintro e w' ⟨rfl,hF⟩;go_wp2;go_ret;refine⟨?_,hF⟩;have hn':¬((k:Int)<0):=by omega
   show Ending.returned (Value.string (ofL (l.take 1)++ofL [101,43]++ofL (dgs k)))=_
   simp only[ofL_append];unfold expL;rw[if_neg h1,if_neg hn',show((k:Int)).toNat=k from by omega];simp
def layL (l:List UInt8) (pw:Int):List UInt8:=
 if(l.length:Int)+pw>21∨(l.length:Int)+pw< -5 then expL l ((l.length:Int)+pw-1)
 else if(l.length:Int)+pw≤0 then[48,46]++List.replicate (-((l.length:Int)+pw)).toNat 48++l
 else if 0≤pw then l++List.replicate pw.toNat 48
 else l.take ((l.length:Int)+pw).toNat++[46]++l.drop ((l.length:Int)+pw).toNat
theorem layOut_any (D:Nat) (pw:Int) (w:World) (hD:D<18446744073709551616) (h1: -5000≤pw) (h2:pw≤5000):
 Calls Tryz.prog 39 #[.int .u64 D,.int .i64 pw] w fun e w'=>e=.returned (.string (ofL (layL (dgs D) pw)))∧Fr (fun _=>False) w w':=by
 have hl:=dgs_len20 D hD;have hl0:=dgs_pos D;have hdg:=digitsOf_any D w hD;generalize dgs D=l at*;have hsz:=ofL_size l;by_cases c1:21<(l.length:Int)+pw
 ·go_enter Tryz.func39,Tryz.ntmps39
  go_wp2_with fail
  refine hdg.mono ?_;rintro e w1 ⟨rfl,hF⟩
  go_wp2_with fail
  refine(withExponent_any l _ _ hl0 hl (by omega) (by omega)).mono ?_;rintro e w2 ⟨rfl,hF2⟩;go_wp2;go_ret;exact⟨by unfold layL;rw[if_pos (.inl c1)];rfl,hF.trans hF2⟩
 ·by_cases c2:(l.length:Int)+pw< -5
  ·go_enter Tryz.func39,Tryz.ntmps39
   go_wp2_with fail
   refine hdg.mono ?_;rintro e w1 ⟨rfl,hF⟩
   go_wp2_with fail
   refine(withExponent_any l _ _ hl0 hl (by omega) (by omega)).mono ?_;rintro e w2 ⟨rfl,hF2⟩;go_wp2;go_ret;exact⟨by unfold layL;rw[if_pos (.inr c2)];rfl,hF.trans hF2⟩
  ·by_cases c3:(l.length:Int)+pw≤0
   ·obtain⟨k,hk⟩:∃k:Nat,(l.length:Int)+pw= -(k:Int):=⟨(-((l.length:Int)+pw)).toNat,by omega⟩
    have z1:(ofL (List.replicate k 48)).size=k:=by rw[ofL_size,List.length_replicate]
    go_enter Tryz.func39,Tryz.ntmps39
    go_wp2_with fail
    refine hdg.mono ?_;rintro e w1 ⟨rfl,hF⟩
    go_wp2_with fail
    refine(noughts_any k _ (by omega)).mono ?_;rintro e w2 ⟨rfl,rfl⟩;go_wp2;go_ret;refine⟨?_,hF⟩
    show Ending.returned (Value.string (ofL [48,46]++ofL (List.replicate k 48)++ofL l))=_
    simp only[ofL_append];unfold layL;rw[if_neg (by omega),if_pos c3,show(-((l.length:Int)+pw)).toNat=k from by omega]
   ·by_cases c4:0≤pw
    ·obtain⟨k,rfl⟩:∃k:Nat,pw=(k:Int):=⟨pw.toNat,by omega⟩
     have z1:(ofL (List.replicate k 48)).size=k:=by rw[ofL_size,List.length_replicate]
     go_enter Tryz.func39,Tryz.ntmps39
     go_wp2_with fail
     refine hdg.mono ?_;rintro e w1 ⟨rfl,hF⟩
     go_wp2_with fail
     refine(noughts_any k _ (by omega)).mono ?_;rintro e w2 ⟨rfl,rfl⟩;go_wp2;go_ret;refine⟨?_,hF⟩
     show Ending.returned (Value.string (ofL l++ofL (List.replicate k 48)))=_
     simp only[ofL_append];unfold layL;rw[if_neg (by omega),if_neg (by omega),if_pos (by omega),show(k:Int).toNat=k from by omega]
    ·obtain⟨k,hk⟩:∃k:Nat,(l.length:Int)+pw=(k:Int):=⟨((l.length:Int)+pw).toNat,by omega⟩
     have z1:(ofL (l.take k)).size=k:=by rw[ofL_size,List.length_take];omega
     have z2:(ofL (l.drop k)).size=l.length-k:=by rw[ofL_size,List.length_drop]
     have e1:(ofL l).extract 0 k=ofL (l.take k):=by rw[ofL_extract,List.drop_zero]
     have e2:(ofL l).extract k l.length=ofL (l.drop k):=by rw[ofL_extract,List.take_length]
     go_enter Tryz.func39,Tryz.ntmps39
     go_wp2_with fail
     refine hdg.mono ?_;rintro e w1 ⟨rfl,hF⟩;go_wp2;go_region;go_wp2;go_ret;refine⟨?_,hF.drewN _⟩
     show Ending.returned (Value.string (ofL (l.take k)++ofL [46]++ofL (l.drop k)))=_
     simp only[ofL_append];unfold layL;rw[if_neg (by omega),if_neg (by omega),if_neg (by omega),show((l.length:Int)+pw).toNat=k from by omega]
theorem u64_andNot_sign (n:Nat) (hn:n<18446744073709551616):bits BinOp.andNot IntKind.u64 (n:Int) 9223372036854775808=((n % 9223372036854775808:Nat):Int):=by
 rw[show(9223372036854775808:Int)=((9223372036854775808:Nat):Int)from rfl,u64_andNot_nat n _ hn (by omega),show 18446744073709551615-9223372036854775808=2^63-1 from by omega,Nat.and_two_pow_sub_one_eq_mod n 63]
theorem nat_bne (n m:Nat):((n:Int)!=(m:Int))=(n !=m):=by
 by_cases h:n=m
 ·subst h;simp
 ·have h':(n:Int)≠(m:Int):=by omega
  rw[bne_iff_ne.2 h,bne_iff_ne.2 h']
theorem is_yes (n m:Nat) (w:World) (hb:bits BinOp.andNot IntKind.u64 (n:Int) 9223372036854775808=(m:Int)) (hd:decide ((m:Int)<9218868437227405312)=true):
 Calls Tryz.prog 38 #[.int .u64 n] w fun e w'=>e=.returned (.bool true)∧w'=w:=by
 go_enter Tryz.func38,Tryz.ntmps38;go_wp2;go_ret;exact⟨rfl,rfl⟩
theorem is_no (n m:Nat) (w:World) (hb:bits BinOp.andNot IntKind.u64 (n:Int) 9223372036854775808=(m:Int)) (hd:decide ((m:Int)<9218868437227405312)=false):
 Calls Tryz.prog 38 #[.int .u64 n] w fun e w'=>e=.returned (.bool false)∧w'=w:=by
 go_enter Tryz.func38,Tryz.ntmps38;go_wp2;go_ret;exact⟨rfl,rfl⟩
def printL (neg:Bool) (t:List UInt8):List UInt8:=if neg then 45::t else t
theorem print_zero (n m:Nat) (w:World) (hb:bits BinOp.andNot IntKind.u64 (n:Int) 9223372036854775808=(m:Int)) (hm:m=0):
 Calls Tryz.prog 23 #[.int .u64 n] w fun e w'=>e=.returned (.tuple #[.string (ofL (printL (n !=m) [48])),.int .i64 0])∧Fr (fun _=>False) w w':=by
 have hc:=hid (fun w=>is_yes n m w hb (decide_eq_true (by omega)));have h0':((m:Int)!=0)=false:=by simpa using hm
 clear hm;by_cases hnm:((n:Int)!=(m:Int))=true
 ·have e:(n !=m)=true:=by rw[←nat_bne];exact hnm
  rw[e];go_enter Tryz.func23,Tryz.ntmps23
  go_wp2_with fail
  refine(hc.out _).mono ?_;rintro e w1 ⟨rfl,rfl⟩;go_wp2;go_ret2;exact⟨rfl,Fr.refl _ _⟩
 ·have hnm':((n:Int)!=(m:Int))=false:=by simpa using hnm
  have e:(n !=m)=false:=by rw[←nat_bne];exact hnm'
  rw[e];clear hnm;go_enter Tryz.func23,Tryz.ntmps23
  go_wp2_with fail
  refine(hc.out _).mono ?_;rintro e w1 ⟨rfl,rfl⟩;go_wp2;go_ret2;exact⟨rfl,Fr.refl _ _⟩
theorem expL_len (l:List UInt8) (x:Int) (hl:l.length≤20) (h1: -6000≤x) (h2:x≤6000):(expL l x).length≤100:=by
 unfold expL;rw[List.length_append,List.length_append,List.length_take];have a1:(if 1<l.length then 46::l.drop 1 else[]).length≤20:=by split<;>simp;omega
 have a2:(if x<0 then[101,45]++dgs (-x).toNat else[101,43]++dgs x.toNat).length≤22:=by
  split
  ·have:=dgs_len20 (-x).toNat (by omega);simp;omega
  ·have:=dgs_len20 x.toNat (by omega);simp;omega
 omega
theorem layL_len (l:List UInt8) (pw:Int) (hl:l.length≤20) (h1: -5000≤pw) (h2:pw≤5000):(layL l pw).length≤100:=by
 unfold layL;split
 ·exact expL_len l _ hl (by omega) (by omega)
 ·split
  ·simp;omega
  ·split
   ·simp;omega
   ·simp;omega
theorem print_num (n m:Nat) (w:World) (hb:bits BinOp.andNot IntKind.u64 (n:Int) 9223372036854775808=(m:Int)) (h0:m≠0) (hm:m<9218868437227405312):
 Calls Tryz.prog 23 #[.int .u64 n] w fun e w'=>∃(D:Nat) (pw:Int),Short m D pw∧D≤90071992547409920∧ -5000≤pw∧pw≤5000∧e=.returned (.tuple #[.string (ofL (printL (n !=m) (layL (dgs D) pw))),.int .i64 0])∧Fr (fun _=>False) w w':=by
 have hs:=fun w=>shortest_any m w h0 hm
 have hc:=hid (fun w=>is_yes n m w hb (decide_eq_true (by omega)));have h0':((m:Int)!=0)=true:=by simpa using h0
 clear hm;go_enter Tryz.func23,Tryz.ntmps23
 go_wp2_with fail
 refine(hc.out _).mono ?_;rintro e w0 ⟨rfl,rfl⟩
 go_wp2_with fail
 refine(hs _).mono ?_;rintro e w1 ⟨D,pw,rfl,s1,s2,s3,s4,hF⟩
 go_wp2_with fail
 refine(layOut_any D pw _ (by omega) s3 s4).mono ?_;rintro e w2 ⟨rfl,hF2⟩;have hz:(ofL (layL (dgs D) pw)).size≤100:=by rw[ofL_size];exact layL_len _ _ (dgs_len20 D (by omega)) s3 s4
 have S1:=hid s1;clear s1 hs;by_cases hnm:((n:Int)!=(m:Int))=true
 ·have e:(n !=m)=true:=by rw[←nat_bne];exact hnm
  have E:=hid e;clear e;go_wp2;go_ret2;refine⟨D,pw,S1.out,s2,s3,s4,?_,hF.trans hF2⟩
  show Ending.returned (.tuple #[.string (ofL [45]++ofL (layL (dgs D) pw)),.int .i64 0])=_
  rw[ofL_append,E.out];rfl
 ·have hnm':((n:Int)!=(m:Int))=false:=by simpa using hnm
  have e:(n !=m)=false:=by rw[←nat_bne];exact hnm'
  have E:=hid e;clear e;clear hnm;go_wp2;go_ret2;exact⟨D,pw,S1.out,s2,s3,s4,by rw[E.out];rfl,hF.trans hF2⟩
end Go.Proofs.YtmkkibaacclhnaaGreatDoor
