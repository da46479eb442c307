/-
  Part Dlp.
-/
import Derived.Test.YtmkkibaacclhnaaGreatDoorRep
namespace Go.Proofs.YtmkkibaacclhnaaGreatDoor
open Go.RowKit
set_option maxRecDepth 100000
set_option maxHeartbeats 16000000
def dgs (n:Nat):LU8:=if n<10 then[UInt8.ofNat (48+n)]else dgs (n/10)++[UInt8.ofNat (48+n % 10)]
termination_by n
decreasing_by omega
theorem A6a {n:Nat} (h:n<10):dgs n=[UInt8.ofNat (48+n)]:=by rw[dgs,if_pos h]
theorem A9h {n:Nat} (h:¬n<10):dgs n=dgs (n/10)++[UInt8.ofNat (48+n % 10)]:=by rw[dgs,if_neg h]
theorem F6u (n j:Nat) (h:n<10*10^j):(dgs n).length<=j+1:=by
 induction j generalizing n with
 |zero=>rw[A6a (by simpa using h)];simp
 |succ j ih=>
  by_cases a:n<10
  ·rw[A6a a];simp
  ·rw[A9h a,List.length_append]
   have:=ih (n/10) (by rw[Nat.pow_succ]at h;omega);simp;omega
theorem A2b (n:Nat) (h:n<18446744073709551616):(dgs n).length<=20:=F6u n 19 (by omega)
theorem B9f (n:Nat):0<(dgs n).length:=by
 by_cases a:n<10
 ·rw[A6a a];simp
 ·rw[A9h a,List.length_append];simp
theorem C7x (m:Nat):((UInt8.ofNat (48+m % 10)).toNat:Int)=48+(m:Int) % 10:=by
 rw[UInt8.toNat_ofNat_of_lt' (by show _<256;omega)];omega
theorem F4x {xs:List Value} {j:Nat} {v:Value} (b:xs.length=20) (a:j<20):(xs.set j v).drop j=v::xs.drop (j+1):=by
 apply List.ext_getElem?;intro i;rw[List.getElem?_drop];cases i with
 |zero=>rw[Nat.add_zero,List.getElem?_set_self (by omega)];rfl
 |succ i=>rw[List.getElem?_set_ne (by omega),List.getElem?_cons_succ,List.getElem?_drop];congr 1;omega
theorem C2s (l:LU8):strOfNums (l.map (λc=>((c.toNat:Nat):Int)))=ofL l:=by
 unfold strOfNums ofL;rw[List.map_map,show((λn:Int=>UInt8.ofNat n.toNat)∘λc:UInt8=>((c.toNat:Nat):Int))=id from by funext c;simp,List.map_id]
theorem C4y {w:World} {B j m:Nat} {b:LU8} {xs:List Value} (n:j<20) (o:m<10) (h:xs.length=20) (g:xs.drop (j+1)=b.map (λc=>Value.int .u8 (c.toNat:Nat)))
 (p:w.ownsRow 0 175 1 (.slice (some ⟨B,0,none⟩) 20 20) 20 (xs.set j (.int .u8 (48+(m:Int) % 10)))):
 (convert 65 9 (.slice (some ⟨B,j,none⟩) (20-j) (20-j))).run Tryz.prog w=.ok (.string (ofL ([UInt8.ofNat (48+m)]++b))) w:=by
 have a:b.length=19-j:=by have:=congrArg List.length g;simp[h]at this;omega
 have e:=F4x (v:=.int .u8 (48+(m:Int) % 10)) h n;have f:=C7x m;rw[Nat.mod_eq_of_lt o]at f
 have k:(xs.set j (.int .u8 (48+(m:Int) % 10))).drop j=((UInt8.ofNat (48+m)::b).map (λc=>Value.int .u8 (c.toNat:Nat))):=by
  rw[e,g,List.map_cons,f]
 have:=run_convert_bytes_arg (P:=Tryz.prog) w 65 5 Tryz.underlying65 Tryz.underlying5 B j (20-j) (20-j) ((UInt8.ofNat (48+m)::b).map (λc=>((c.toNat:Nat):Int))) (by simp[a];omega) (by
  intro i q
  show w.cell? _=_
  rw[p.cellAt (j+i) (by omega),<-List.getElem?_drop,k];have d:i<(UInt8.ofNat (48+m)::b).length:=by simp[a];omega
  generalize UInt8.ofNat (48+m)::b=l at d
  simp[List.getD,List.getElem?_eq_getElem d]) 9 Tryz.underlying9
 rw[this,C2s];rfl
theorem C1i (B j:Nat) (b:j<20) (W:World):(Instr.sliceAt 175 (.pointer (some ⟨B,0,none⟩)) (some (.int .i64 (j:Int))) none none).run Tryz.prog W=.ok (.slice (some ⟨B,j,none⟩) (20-j) (20-j)) W:=by
 have a:Tryz.prog.arrayLen 175=20:=rfl;rw[run_sliceAt_array_l (P:=Tryz.prog) W 175 ⟨B,0,none⟩ Tryz.underlying175 .i64 (j:Int) (by omega) (by rw[a];omega),a];rw[show(sizeOf (Tryz.prog.elem 175)).run Tryz.prog W=.ok 1 W from rfl];simp only[Result.andThen_ok,slicedAt];rw[if_neg (by omega)];simp[Addr.add];omega
theorem A6z (n:Nat) (w:World) (v:n<18446744073709551616):
 Calls Tryz.prog 63 #[.int .u64 n] w λe w'=>e=.returned (.string (ofL (dgs n)))/\Fr (λ_=>False) w w':=by
 go_enter Tryz.func63,Tryz.ntmps63;go_wp2
 go_loopw [0,4] (λnv av wr=>∃(j m:Nat) (i:LU8) (xs:List Value),j<20/\Hid (m<10*10^j)/\m<18446744073709551616/\Hid (dgs n=dgs m++i)/\nv=.int .u64 m/\av=.int .i64 ((j+1:Nat):Int)/\
  Hid (xs.length=20/\xs.drop (j+1)=i.map (λc=>Value.int .u8 (c.toNat:Nat)))/\wr.ownsRow 0 175 1 (.slice (some ⟨w.heap.size,0,none⟩) 20 20) 20 xs/\Fr (λ_=>False) w wr)
  (λ_ av _=>(intOf av).toNat)
 case atStart=>exact⟨19,n,[],_,by omega,hid (by omega),v,hid (by simp),rfl,rfl,hid ⟨rfl,rfl⟩,⟨rfl,.inr ⟨_,_,_,rfl,Nat.zero_le _,heap_alloc_new _ _,by omega,by decide,rfl,rfl⟩⟩,(Fr.refl _ _).alloc _⟩
 case round=>
  obtain⟨j,m,i,xs,q,r,s,k,rfl,rfl,b,d,l⟩:=hrel;have h:=b.1;have t:wr.cell? ⟨w.heap.size,j,none⟩=some xs[j]:=by rw[d.cellAt j (by omega),List.getElem?_eq_getElem (by omega)]
  have u:=d.frozenAt j;by_cases a:m<10
  ·have o:(m:Int)/10=0:=by omega
   have x:=C1i w.heap.size j q;have f:=(d.stored j (.int .u8 (48+(m:Int) % 10))).1;have g:=l.setCell (p:=⟨w.heap.size,j,none⟩) (.inr (Nat.le_refl _)) (.int .u8 (48+(m:Int) % 10));have hr:=C4y (xs:=xs) q a (b.1) (b.2) f;rw[<-A6a a,<-k.out]at hr;have y:=hid k;clear b d l f k;go_wp2;go_ret;exact⟨rfl,g⟩
  ·have o:(((m:Int)/10)==0)=false:=bqF (by omega)
   go_wp2;go_roundw
   case rel=>
    cases j with
    |zero=>have:=r.out;omega
    |succ j=>
     refine⟨j,m/10,UInt8.ofNat (48+m % 10)::i,xs.set (j+1) (.int .u8 (48+(m:Int) % 10)),by omega,hid ?_,by omega,hid ?_,by go_num,rfl,hid ⟨?_,?_⟩,(d.stored (j+1) _).1,l.setCell (.inr (Nat.le_refl _)) _⟩
     ·have:=r.out;rw[Nat.pow_succ]at this;omega
     ·rw[k.out,A9h a];simp
     ·simp[h]
     ·rw[F4x h q,b.2];rw[List.map_cons,C7x]
   case measure=>show((j:Nat):Int).toNat<((j+1:Nat):Int).toNat;omega
theorem A0j (a b:LU8):ofL a++ofL b=ofL (a++b):=by
 apply ByteArray.ext;simp[ofL]
def D6z (l:LU8) (e:Int):LU8:=l.take 1++(if 1<l.length then 46::l.drop 1 else[])++(if e<0 then[101,45]++dgs (-e).toNat else[101,43]++dgs e.toNat)
theorem B1b (l:LU8) (x:Int) (w:World) (f:0<l.length) (o:l.length<=20) (i: -6000<=x) (j:x<=6000):
 Calls Tryz.prog 64 #[.string (ofL l),.int .i64 x] w λe w'=>e=.returned (.string (ofL (D6z l x)))/\Fr (λ_=>False) w w':=by
 have h:=A0c l;have p:(ofL (l.take 1)).size=1:=by rw[A0c,List.length_take];omega
 have q:(ofL l.tail).size=l.length-1:=by rw[A0c,List.length_tail]
 have r:(ByteArray.mk #[46]).size=1:=rfl;have m:(ofL l).extract 0 1=ofL (l.take 1):=by rw[A0r,List.drop_zero]
 have n:(ofL l).extract 1 l.length=ofL (l.drop 1):=by rw[A0r,List.take_length]
 by_cases c:1<l.length
 ·by_cases g:x<0
  ·obtain⟨k,rfl⟩:∃k:Nat,x= -(k:Int):=⟨(-x).toNat,by omega⟩
   have d:(ofL (dgs k)).size<=20:=by rw[A0c];exact A2b k (by omega)
   go_enter Tryz.func64,Tryz.ntmps64
   go_wp2_with fail
   refine(A6z k _ (by omega)).mono ?_;rintro e w' ⟨rfl,b⟩;go_wp2;go_ret;refine⟨?_,b⟩;have a:(-(k:Int)<0):=by omega
   show Ending.returned (Value.string (ofL (l.take 1)++(ofL [46]++ofL l.tail)++ofL [101,45]++ofL (dgs k)))=_
   simp only[A0j];unfold D6z;rw[if_pos c,if_pos a,show(-(-(k:Int))).toNat=k from by omega];simp
  ·obtain⟨k,rfl⟩:∃k:Nat,x=(k:Int):=⟨x.toNat,by omega⟩
   have d:(ofL (dgs k)).size<=20:=by rw[A0c];exact A2b k (by omega)
   go_enter Tryz.func64,Tryz.ntmps64
   go_wp2_with fail
   refine(A6z k _ (by omega)).mono ?_;rintro e w' ⟨rfl,b⟩;go_wp2;go_ret;refine⟨?_,b⟩;have a:¬((k:Int)<0):=by omega
   show Ending.returned (Value.string (ofL (l.take 1)++(ofL [46]++ofL l.tail)++ofL [101,43]++ofL (dgs k)))=_
   simp only[A0j];unfold D6z;rw[if_pos c,if_neg a,show((k:Int)).toNat=k from by omega];simp
 ·by_cases g:x<0
  ·obtain⟨k,rfl⟩:∃k:Nat,x= -(k:Int):=⟨(-x).toNat,by omega⟩
   have d:(ofL (dgs k)).size<=20:=by rw[A0c];exact A2b k (by omega)
   go_enter Tryz.func64,Tryz.ntmps64
   go_wp2_with fail
   refine(A6z k _ (by omega)).mono ?_;rintro e w' ⟨rfl,b⟩;go_wp2;go_ret;refine⟨?_,b⟩;have a:(-(k:Int)<0):=by omega
   show Ending.returned (Value.string (ofL (l.take 1)++ofL [101,45]++ofL (dgs k)))=_
   simp only[A0j];unfold D6z;rw[if_neg c,if_pos a,show(-(-(k:Int))).toNat=k from by omega];simp
  ·obtain⟨k,rfl⟩:∃k:Nat,x=(k:Int):=⟨x.toNat,by omega⟩
   have d:(ofL (dgs k)).size<=20:=by rw[A0c];exact A2b k (by omega)
   go_enter Tryz.func64,Tryz.ntmps64
   go_wp2_with fail
   refine(A6z k _ (by omega)).mono ?_;rintro e w' ⟨rfl,b⟩;go_wp2;go_ret;refine⟨?_,b⟩;have a:¬((k:Int)<0):=by omega
   show Ending.returned (Value.string (ofL (l.take 1)++ofL [101,43]++ofL (dgs k)))=_
   simp only[A0j];unfold D6z;rw[if_neg c,if_neg a,show((k:Int)).toNat=k from by omega];simp
def B3b (l:LU8) (pw:Int):LU8:=
 if(l.length:Int)+pw>21\/(l.length:Int)+pw< -5 then D6z l ((l.length:Int)+pw-1)
 else if(l.length:Int)+pw<=0 then[48,46]++List.replicate (-((l.length:Int)+pw)).toNat 48++l
 else if 0<=pw then l++List.replicate pw.toNat 48
 else l.take ((l.length:Int)+pw).toNat++[46]++l.drop ((l.length:Int)+pw).toNat
theorem D7a (D:Nat) (a:Int) (w:World) (i:D<18446744073709551616) (v: -5000<=a) (x:a<=5000):
 Calls Tryz.prog 39 #[.int .u64 D,.int .i64 a] w λe w'=>e=.returned (.string (ofL (B3b (dgs D) a)))/\Fr (λ_=>False) w w':=by
 have j:=A2b D i;have f:=B9f D;have b:=A6z D w i;generalize dgs D=l at*;have r:=A0c l;by_cases n:21<(l.length:Int)+a
 ·go_enter Tryz.func39,Tryz.ntmps39
  go_wp2_with fail
  refine b.mono ?_;rintro e g ⟨rfl,c⟩
  go_wp2_with fail
  refine(B1b l _ _ f j (by omega) (by omega)).mono ?_;rintro e h ⟨rfl,d⟩;go_wp2;go_ret;exact⟨by unfold B3b;rw[if_pos (.inl n)];rfl,c.trans d⟩
 ·by_cases o:(l.length:Int)+a< -5
  ·go_enter Tryz.func39,Tryz.ntmps39
   go_wp2_with fail
   refine b.mono ?_;rintro e g ⟨rfl,c⟩
   go_wp2_with fail
   refine(B1b l _ _ f j (by omega) (by omega)).mono ?_;rintro e h ⟨rfl,d⟩;go_wp2;go_ret;exact⟨by unfold B3b;rw[if_pos (.inr o)];rfl,c.trans d⟩
  ·by_cases p:(l.length:Int)+a<=0
   ·obtain⟨k,q⟩:∃k:Nat,(l.length:Int)+a= -(k:Int):=⟨(-((l.length:Int)+a)).toNat,by omega⟩
    have m:(ofL (List.replicate k 48)).size=k:=by rw[A0c,List.length_replicate]
    go_enter Tryz.func39,Tryz.ntmps39
    go_wp2_with fail
    refine b.mono ?_;rintro e g ⟨rfl,c⟩
    go_wp2_with fail
    refine(B9e k _ (by omega)).mono ?_;rintro e h ⟨rfl,rfl⟩;go_wp2;go_ret;refine⟨?_,c⟩
    show Ending.returned (Value.string (ofL [48,46]++ofL (List.replicate k 48)++ofL l))=_
    simp only[A0j];unfold B3b;rw[if_neg (by omega),if_pos p,show(-((l.length:Int)+a)).toNat=k from by omega]
   ·by_cases s:0<=a
    ·obtain⟨k,rfl⟩:∃k:Nat,a=(k:Int):=⟨a.toNat,by omega⟩
     have m:(ofL (List.replicate k 48)).size=k:=by rw[A0c,List.length_replicate]
     go_enter Tryz.func39,Tryz.ntmps39
     go_wp2_with fail
     refine b.mono ?_;rintro e g ⟨rfl,c⟩
     go_wp2_with fail
     refine(B9e k _ (by omega)).mono ?_;rintro e h ⟨rfl,rfl⟩;go_wp2;go_ret;refine⟨?_,c⟩
     show Ending.returned (Value.string (ofL l++ofL (List.replicate k 48)))=_
     simp only[A0j];unfold B3b;rw[if_neg (by omega),if_neg (by omega),if_pos (by omega),show(k:Int).toNat=k from by omega]
    ·obtain⟨k,q⟩:∃k:Nat,(l.length:Int)+a=(k:Int):=⟨((l.length:Int)+a).toNat,by omega⟩
     have m:(ofL (l.take k)).size=k:=by rw[A0c,List.length_take];omega
     have y:(ofL (l.drop k)).size=l.length-k:=by rw[A0c,List.length_drop]
     have t:(ofL l).extract 0 k=ofL (l.take k):=by rw[A0r,List.drop_zero]
     have u:(ofL l).extract k l.length=ofL (l.drop k):=by rw[A0r,List.take_length]
     go_enter Tryz.func39,Tryz.ntmps39
     go_wp2_with fail
     refine b.mono ?_;rintro e g ⟨rfl,c⟩;go_wp2;go_region;go_wp2;go_ret;refine⟨?_,c.drewN _⟩
     show Ending.returned (Value.string (ofL (l.take k)++ofL [46]++ofL (l.drop k)))=_
     simp only[A0j];unfold B3b;rw[if_neg (by omega),if_neg (by omega),if_neg (by omega),show((l.length:Int)+a).toNat=k from by omega]
theorem A2j (n:Nat) (a:n<18446744073709551616):bits BinOp.andNot IntKind.u64 (n:Int) 9223372036854775808=((n % 9223372036854775808:Nat):Int):=by
 rw[show(9223372036854775808:Int)=((9223372036854775808:Nat):Int)from rfl,u64_andNot_nat n _ a (by omega),show 18446744073709551615-9223372036854775808=2^63-1 from by omega,Nat.and_two_pow_sub_one_eq_mod n 63]
theorem C4z (n m:Nat):((n:Int)!=(m:Int))=(n !=m):=by
 by_cases h:n=m
 ·subst h;simp
 ·have a:(n:Int)≠(m:Int):=by omega
  rw[bne_iff_ne.2 h,bne_iff_ne.2 a]
theorem E2e (n m:Nat) (w:World) (a:bits BinOp.andNot IntKind.u64 (n:Int) 9223372036854775808=(m:Int)) (b:decide ((m:Int)<9218868437227405312)=true):
 Calls Tryz.prog 38 #[.int .u64 n] w λe w'=>e=.returned (.bool true)/\w'=w:=by
 go_enter Tryz.func38,Tryz.ntmps38;go_wp2;go_ret;exact⟨rfl,rfl⟩
theorem G3t (n m:Nat) (w:World) (a:bits BinOp.andNot IntKind.u64 (n:Int) 9223372036854775808=(m:Int)) (b:decide ((m:Int)<9218868437227405312)=false):
 Calls Tryz.prog 38 #[.int .u64 n] w λe w'=>e=.returned (.bool false)/\w'=w:=by
 go_enter Tryz.func38,Tryz.ntmps38;go_wp2;go_ret;exact⟨rfl,rfl⟩
def D4e (neg:Bool) (t:LU8):LU8:=if neg then 45::t else t
theorem B5y (n m:Nat) (w:World) (g:bits BinOp.andNot IntKind.u64 (n:Int) 9223372036854775808=(m:Int)) (d:m=0):
 Calls Tryz.prog 23 #[.int .u64 n] w λe w'=>e=.returned (.tuple #[.string (ofL (D4e (n !=m) [48])),.int .i64 0])/\Fr (λ_=>False) w w':=by
 have c:=hid (λw=>E2e n m w g (dcT (by omega)));have f:((m:Int)!=0)=false:=by simpa using d
 clear d;by_cases a:((n:Int)!=(m:Int))=true
 ·have e:(n !=m)=true:=by rw[<-C4z];exact a
  rw[e];go_enter Tryz.func23,Tryz.ntmps23
  go_wp2_with fail
  refine(c.out _).mono ?_;rintro e h ⟨rfl,rfl⟩;go_wp2;go_ret2;exact⟨rfl,Fr.refl _ _⟩
 ·have b:((n:Int)!=(m:Int))=false:=by simpa using a
  have e:(n !=m)=false:=by rw[<-C4z];exact b
  rw[e];clear a;go_enter Tryz.func23,Tryz.ntmps23
  go_wp2_with fail
  refine(c.out _).mono ?_;rintro e h ⟨rfl,rfl⟩;go_wp2;go_ret2;exact⟨rfl,Fr.refl _ _⟩
theorem E9t (l:LU8) (x:Int) (e:l.length<=20) (c: -6000<=x) (d:x<=6000):(D6z l x).length<=100:=by
 unfold D6z;rw[List.length_append,List.length_append,List.length_take];have a:(if 1<l.length then 46::l.drop 1 else[]).length<=20:=by split<;>simp;omega
 have b:(if x<0 then[101,45]++dgs (-x).toNat else[101,43]++dgs x.toNat).length<=22:=by
  split
  ·have:=A2b (-x).toNat (by omega);simp;omega
  ·have:=A2b x.toNat (by omega);simp;omega
 omega
theorem C5a (l:LU8) (a:Int) (b:l.length<=20) (c: -5000<=a) (d:a<=5000):(B3b l a).length<=100:=by
 unfold B3b;split
 ·exact E9t l _ b (by omega) (by omega)
 ·split
  ·simp;omega
  ·split
   ·simp;omega
   ·simp;omega
theorem A9x (n m:Nat) (w:World) (r:bits BinOp.andNot IntKind.u64 (n:Int) 9223372036854775808=(m:Int)) (i:m≠0) (k:m<9218868437227405312):
 Calls Tryz.prog 23 #[.int .u64 n] w λe w'=>∃(D:Nat) (a:Int),B1e m D a/\D<=90071992547409920/\ -5000<=a/\a<=5000/\e=.returned (.tuple #[.string (ofL (D4e (n !=m) (B3b (dgs D) a))),.int .i64 0])/\Fr (λ_=>False) w w':=by
 have l:=λw=>C7w m w i k
 have s:=hid (λw=>E2e n m w r (dcT (by omega)));have q:((m:Int)!=0)=true:=by simpa using i
 clear k;go_enter Tryz.func23,Tryz.ntmps23
 go_wp2_with fail
 refine(s.out _).mono ?_;rintro e w0 ⟨rfl,rfl⟩
 go_wp2_with fail
 refine(l _).mono ?_;rintro e u ⟨D,a,rfl,o,p,f,g,j⟩
 go_wp2_with fail
 refine(D7a D a _ (by omega) f g).mono ?_;rintro e v ⟨rfl,c⟩;have t:(ofL (B3b (dgs D) a)).size<=100:=by rw[A0c];exact C5a _ _ (A2b D (by omega)) f g
 have h:=hid o;clear o l;by_cases b:((n:Int)!=(m:Int))=true
 ·have e:(n !=m)=true:=by rw[<-C4z];exact b
  have E:=hid e;clear e;go_wp2;go_ret2;refine⟨D,a,h.out,p,f,g,?_,j.trans c⟩
  show Ending.returned (.tuple #[.string (ofL [45]++ofL (B3b (dgs D) a)),.int .i64 0])=_
  rw[A0j,E.out];rfl
 ·have d:((n:Int)!=(m:Int))=false:=by simpa using b
  have e:(n !=m)=false:=by rw[<-C4z];exact d
  have E:=hid e;clear e;clear b;go_wp2;go_ret2;exact⟨D,a,h.out,p,f,g,by rw[E.out];rfl,j.trans c⟩
end Go.Proofs.YtmkkibaacclhnaaGreatDoor
