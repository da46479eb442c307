/-
  A step of the walk, the part named Nce. No theorem of the row.
-/
import Derived.Test.YtmkkibaacclhnaaGreatDoorNab
import Derived.Lib.Walk
import Derived.Lib.BitFns
import Derived.Deep.Light
import Derived.Deep.RegionWith
import Derived.Deep.RegionLawGrows
namespace Go.Proofs.YtmkkibaacclhnaaGreatDoor
open Go.RowKit
set_option maxRecDepth 100000
set_option maxHeartbeats 16000000
theorem tab_size:(Lib.len8tab.size:Int)=256:=by
 have:Lib.len8tab.size=256:=by decide
 omega
theorem t8 (y:Int) (h:y.toNat<Lib.len8tab.size) (h0:0≤y) (h1:y≤255):((Lib.len8tab[y.toNat]'h).toNat:Int)=(Lib.bitLen y.toNat:Int):=by
 have:=Lib.len8_of y h0 h1;unfold Lib.len8 at this;rw[getElem?_pos Lib.len8tab y.toNat h]at this;exact this
theorem fin8 (k:Nat) (hk:k≤56) (x y a:Int) (ha:a=(Lib.bitLen y.toNat:Int)) (h0:0≤y) (h1:y≤255) (hx:x.toNat<18446744073709551616) (hge:2^k≤x.toNat) (e:y.toNat=x.toNat/2^k):
 wrap64 ((k:Int)+wrap64 a)=(Lib.bitLen x.toNat:Int):=by
 have s:Lib.bitLen x.toNat=k+Lib.bitLen (x.toNat/2^k):=Lib.bitLen_shift k _ hge hx;have l:=Lib.bitLen_le8' y h0 h1;rw[s,ha,←e];clear s hge e hx ha;generalize Lib.bitLen y.toNat=m at l ⊢;unfold wrap64;omega
theorem fin80 (x a:Int) (ha:a=(Lib.bitLen x.toNat:Int)) (h0:0≤x) (h1:x≤255):wrap64 (wrap64 a)=(Lib.bitLen x.toNat:Int):=by
 have l:=Lib.bitLen_le8' x h0 h1;rw[ha];unfold wrap64;omega
theorem len64_any (x:Int) (w:World) (h0:0≤x) (h1:x≤18446744073709551615):
 Calls Tryz.prog 116 #[.int .u64 x] w fun e w'=>e=.returned (.int .i64 (Lib.bitLen x.toNat))∧w'=w:=by
 go_enter Tryz.func116,Tryz.ntmps116;go_wp2
 all_goals first
  |(go_ret;refine⟨congrArg Ending.returned (congrArg (Value.int IntKind.i64) ?_),rfl⟩;go_light)
  |(exfalso;go_light;have hs:=tab_size;omega)
 all_goals first
  |exact fin8 56 (by decide) x (x/4294967296/65536/256) _ (t8 (x/4294967296/65536/256) _ (by omega) (by omega)) (by omega) (by omega) (by omega) (by omega) (by omega)
  |exact fin8 48 (by decide) x (x/4294967296/65536) _ (t8 (x/4294967296/65536) _ (by omega) (by omega)) (by omega) (by omega) (by omega) (by omega) (by omega)
  |exact fin8 40 (by decide) x (x/4294967296/256) _ (t8 (x/4294967296/256) _ (by omega) (by omega)) (by omega) (by omega) (by omega) (by omega) (by omega)
  |exact fin8 32 (by decide) x (x/4294967296) _ (t8 (x/4294967296) _ (by omega) (by omega)) (by omega) (by omega) (by omega) (by omega) (by omega)
  |exact fin8 24 (by decide) x (x/65536/256) _ (t8 (x/65536/256) _ (by omega) (by omega)) (by omega) (by omega) (by omega) (by omega) (by omega)
  |exact fin8 16 (by decide) x (x/65536) _ (t8 (x/65536) _ (by omega) (by omega)) (by omega) (by omega) (by omega) (by omega) (by omega)
  |exact fin8 8 (by decide) x (x/256) _ (t8 (x/256) _ (by omega) (by omega)) (by omega) (by omega) (by omega) (by omega) (by omega)
  |exact fin80 x _ (t8 x _ (by omega) (by omega)) (by omega) (by omega)
theorem len32_any (x:Int) (w:World) (h0:0≤x) (h1:x≤4294967295):
 Calls Tryz.prog 196 #[.int .u32 x] w fun e w'=>e=.returned (.int .i64 (Lib.bitLen x.toNat))∧w'=w:=by
 go_enter Tryz.func196,Tryz.ntmps196;go_wp2
 all_goals first
  |(go_ret;refine⟨congrArg Ending.returned (congrArg (Value.int IntKind.i64) ?_),rfl⟩;go_light)
  |(exfalso;go_light;have hs:=tab_size;omega)
 all_goals first
  |exact fin8 24 (by decide) x (x/65536/256) _ (t8 (x/65536/256) _ (by omega) (by omega)) (by omega) (by omega) (by omega) (by omega) (by omega)
  |exact fin8 16 (by decide) x (x/65536) _ (t8 (x/65536) _ (by omega) (by omega)) (by omega) (by omega) (by omega) (by omega) (by omega)
  |exact fin8 8 (by decide) x (x/256) _ (t8 (x/256) _ (by omega) (by omega)) (by omega) (by omega) (by omega) (by omega) (by omega)
  |exact fin80 x _ (t8 x _ (by omega) (by omega)) (by omega) (by omega)
theorem tb31 (x:Nat) (hx:x<4294967296):x.testBit 31=decide (2147483648≤x):=by
 rw[Nat.testBit_eq_decide_div_mod_eq];by_cases h:2147483648≤x
 ·simp[h];omega
 ·simp[h];omega
def bo (x y c:Nat):Nat:=if x<y+c then 1 else 0
theorem borrow_nat (x y d:Nat) (c:Nat) (hx:x<4294967296) (hy:y<4294967296) (hc:c≤1) (hd:d=(x+8589934592-y-c) % 4294967296):
 (((4294967295^^^x)&&&y)|||((4294967295^^^(x^^^y))&&&d))/2147483648=bo x y c:=by
 have hd2:d<4294967296:=by omega
 have hZ:(((4294967295^^^x)&&&y)|||((4294967295^^^(x^^^y))&&&d))<2^32:=
  Nat.or_lt_two_pow (Nat.lt_of_le_of_lt Nat.and_le_right hy) (Nat.lt_of_le_of_lt Nat.and_le_right hd2)
 generalize hz:(((4294967295^^^x)&&&y)|||((4294967295^^^(x^^^y))&&&d))=Z at hZ
 have ht:Z.testBit 31=((!(decide (2147483648≤x))&&decide (2147483648≤y))||(!(decide (2147483648≤x)^^decide (2147483648≤y))&&decide (2147483648≤d))):=by
  rw[←hz];simp only[Nat.testBit_or,Nat.testBit_and,Nat.testBit_xor,tb31 x hx,tb31 y hy,tb31 d hd2,show Nat.testBit 4294967295 31=true from by decide,Bool.true_xor]
 rw[tb31 Z (by omega)]at ht;clear hz;by_cases a:2147483648≤x<;>by_cases b:2147483648≤y<;>by_cases e:2147483648≤d<;>simp[a,b,e]at ht<;>unfold bo<;>split<;>omega
theorem sub32_any (x y c:Nat) (w:World) (hx:x<4294967296) (hy:y<4294967296) (hc:c≤1):
 Calls Tryz.prog 170 #[.int .u32 x,.int .u32 y,.int .u32 c] w fun e w'=>e=.returned (.tuple #[.int .u32 ((x+8589934592-y-c) % 4294967296:Nat),.int .u32 (bo x y c:Nat)])∧w'=w:=by
 have hb:=borrow_nat x y _ c hx hy hc rfl;have HB:Hid _:=hb;clear hb;go_enter Tryz.func170,Tryz.ntmps170;go_wp2;go_ret2;have e0:IntKind.u32.max=((4294967295:Nat):Int):=by decide
 have e1:((x:Int)-y-c) % 4294967296=(((x+8589934592-y-c) % 4294967296:Nat):Int):=by omega
 refine⟨congrArg Ending.returned (congrArg Value.tuple ?_),rfl⟩
 show#[Value.int IntKind.u32 _,Value.int IntKind.u32 _]=_
 rw[e0,e1];have hxy:x^^^y<4294967296:=Nat.xor_lt_two_pow (n:=32) hx hy;rw[u32_xor_nat x y hx hy,u32_xor_nat 4294967295 _ (by omega) hxy,u32_xor_nat 4294967295 _ (by omega) hx];have h1:4294967295^^^(x^^^y)<4294967296:=Nat.xor_lt_two_pow (n:=32) (by omega) hxy;have h2:4294967295^^^x<4294967296:=Nat.xor_lt_two_pow (n:=32) (by omega) hx;rw[u32_and_nat _ _ h1 (by omega),u32_and_nat _ _ h2 hy,u32_or_nat _ _ (Nat.lt_of_le_of_lt Nat.and_le_right hy) (Nat.lt_of_le_of_lt Nat.and_le_right (by omega))];rw[←HB.out];rfl
def nlen (n:Nat):Nat:=if n=0 then 0 else Nat.log2 n+1
theorem nlen_lt (n:Nat):n<2^nlen n:=by
 unfold nlen;split
 ·omega
 ·exact Nat.lt_log2_self
theorem nlen_ge (n:Nat) (h:n≠0):2^nlen n≤2*n:=by
 unfold nlen;rw[if_neg h,Nat.pow_succ];have:=Nat.log2_self_le h;omega
theorem nlen_of (n L:Nat) (h0:n≠0) (h1:n<2^L) (h2:2^L≤2*n):nlen n=L:=by
 have a:=nlen_lt n;have b:=nlen_ge n h0;have c:2^nlen n<2^(L+1):=by rw[Nat.pow_succ];omega
 have d:2^L<2^(nlen n+1):=by rw[Nat.pow_succ];omega
 have:=(Nat.pow_lt_pow_iff_right (by omega:1<2)).1 c;have:=(Nat.pow_lt_pow_iff_right (by omega:1<2)).1 d;omega
theorem aux_bounds:∀f x:Nat,x<2^f→x<2^Lib.bitLenAux f x∧(x≠0→2^Lib.bitLenAux f x≤2*x)
 |0,x,h=>by simp[Lib.bitLenAux];omega
 |f+1,x,h=>by
  rw[Nat.pow_succ]at h;unfold Lib.bitLenAux;by_cases hx:x=0
  ·simp[hx]
  ·rw[if_neg hx]
   obtain⟨a,b⟩:=aux_bounds f (x/2) (by omega);rw[Nat.add_comm 1,Nat.pow_succ];refine⟨by omega,fun _=>?_⟩;by_cases h2:x/2=0
   ·have h3:Lib.bitLenAux f 0=0:=by cases f<;>simp[Lib.bitLenAux]
    rw[h2,h3];omega
   ·have:=b h2;omega
theorem bitLen_nlen (x:Nat) (h:x<18446744073709551616):Lib.bitLen x=nlen x:=by
 obtain⟨a,b⟩:=aux_bounds 64 x h;by_cases hx:x=0
 ·subst hx;rfl
 ·exact(nlen_of x _ hx a (b hx)).symm
theorem pow32 (k:Nat):4294967296^k=2^(32*k):=by rw[show(4294967296:Nat)=2^32 from rfl,←Nat.pow_mul]
theorem nlen_words (i:List Nat) (x:Nat) (hi:Limbs i) (hx0:x≠0):nlen (val (i++[x]))=i.length*32+nlen x:=by
 have a:=val_lt i hi;have b:=nlen_lt x;have c:=nlen_ge x hx0;rw[val_snoc,pow32]at*;rw[Nat.mul_comm i.length 32];have hp:0<2^(32*i.length):=Nat.two_pow_pos _;apply nlen_of
 ·have:0<2^(32*i.length)*x:=Nat.mul_pos hp (by omega)
  omega
 ·rw[Nat.pow_add]
  have:2^(32*i.length)*(x+1)≤2^(32*i.length)*2^nlen x:=Nat.mul_le_mul_left _ (by omega);rw[Nat.mul_add]at this;omega
 ·rw[Nat.pow_add]
  have:2^(32*i.length)*2^nlen x≤2^(32*i.length)*(2*x):=Nat.mul_le_mul_left _ c;have e:2^(32*i.length)*(2*x)=2*(2^(32*i.length)*x):=by rw[Nat.mul_left_comm]
  omega
theorem nlen_le (n k:Nat) (h:n<2^k):nlen n≤k:=by
 by_cases hn:n=0
 ·simp[nlen,hn]
 ·have b:=nlen_ge n hn
  have c:2^nlen n<2^(k+1):=by rw[Nat.pow_succ];omega
  have:=(Nat.pow_lt_pow_iff_right (by omega:1<2)).1 c;omega
theorem length_nt (b g N:Nat) (w:World) (hS:Sm N) (hN:Nt w b g N):
 Calls Tryz.prog 162 #[.pointer (some ⟨b,0,none⟩)] w fun e w'=>e=.returned (.int .i64 (nlen N:Nat))∧w'=w:=by
 obtain⟨ws,⟨cap,T,hb,ho,hne⟩,h2,h3,rfl⟩:=hN;have hl:=hS.len h3;clear hS;have hbc:=cell_of_one hb;rcases List.eq_nil_or_concat ws with rfl|⟨i,x,rfl⟩
 ·go_enter Tryz.func162,Tryz.ntmps162
  simp only[List.length_nil]at*;go_wp2;go_ret;exact⟨rfl,rfl⟩
 ·rw[List.concat_eq_append]at*
  have hx0:x≠0:=by intro e;apply h3;simp[e]
  have hx:x<4294967296:=h2 x (by simp);have hcx:=nat_cell ho i.length (by simp);rw[List.getElem_concat_length rfl (by simp)]at hcx;have HV:=nlen_words i x h2.left hx0;have HV2:Hid _:=HV;clear HV;have hle:=nlen_le x 32 hx;have hcap:=ownsRow_cap ho;have hz:(((i.length+1:Nat):Int)==0)=false:=by simp;omega
  simp only[List.length_append,List.length_cons,List.length_nil,Nat.zero_add]at hb ho hbc hl hcap;go_enter Tryz.func162,Tryz.ntmps162
  go_wp2_with (go_at_call 196;refine(len32_any _ _ (by omega) (by omega)).mono ?_;rintro e w' ⟨rfl,rfl⟩;rw[Int.toNat_natCast,bitLen_nlen _ (by omega)])
  go_ret;refine⟨congrArg Ending.returned (congrArg (Value.int IntKind.i64) ?_),rfl⟩;rw[HV2.out];omega
theorem cloneWords_any (g n cap:Nat) (ws:List Nat) (w:World) (hl:ws.length≤1000) (h0:ws≠[]) (hn:ws.length=n) (ho:w.ownsRow 0 127 1 (.slice (some ⟨g,0,none⟩) n cap) n (vs ws)):
 Calls Tryz.prog 169 #[.slice (some ⟨g,0,none⟩) n cap] w fun e w'=>∃g' cap',e=.returned (.slice (some ⟨g',0,none⟩) n cap')∧w.heap.size≤g'∧w'.ownsRow 0 127 1 (.slice (some ⟨g',0,none⟩) n cap') n (vs ws)∧Fr (fun _=>False) w w':=by
 have hpos:0<n:=by rw[←hn];exact List.length_pos_iff.2 h0
 obtain⟨i0,hi,hz0,hz1,hz2⟩:=info_parts Tryz.info127;have hnil:=fun wx=>Lib.run_eql_slice_nil (P:=Tryz.prog) wx 211 127 (some ⟨g,0,none⟩) n cap 0 0 Tryz.underlying211
 have HN:Hid _:=hn;have hvl:(vs ws).length=n*1:=by rw[vs_length,hn];omega
 clear hn;have hnn:n≤1000:=by have:=HN.out;omega
 have hone:∀u∈vs ws,u.oneCell'=true:=by intro u hu;simp[vs]at hu;obtain⟨a,_,rfl⟩:=hu;rfl
 have he:(w.alloc (.cells #[] 127)).ownsRow 0 127 1 (.slice (some ⟨w.heap.size,0,none⟩) 0 0) 0 []:=World.ownsRow_lit w (size:=1) #[] 0 (Nat.zero_le _) (by decide) rfl;go_enter Tryz.func169,Tryz.ntmps169
 go_wp2_with (at_builtin;refine wpList_append_d _ rfl _ _ 211 rfl 127 i0 (.int .u32 0) 1 4 Tryz.underlying211 hi hz0 hz1 hz2 rfl (by decide) _ _ _ rfl he ⟨g,0,none⟩ n cap (vs ws) rfl hvl ?c1 hone ?c3 ?c4 ?_)
 case c1=>exact(ho.alloc _).cells (g:=g) rfl
 case c3=>unfold maxLen;omega
 case c4=>omega
 intro v' w1 hown' hgrow hwhere;obtain⟨n',rfl⟩:∃n',n=n'+1:=⟨n-1,by omega⟩;obtain⟨g',cap',rfl⟩:=row_succ hown';have hw2:=hwhere g' rfl;clear hwhere;go_wp2;go_ret;refine⟨g',cap',rfl,?_,hown',((Fr.refl _ w).alloc _).grown hgrow (fun k hk=>.inr ?_)⟩
 ·rcases hw2 with h|h
  ·simp[Value.ownBlock]at h;omega
  ·omega
 ·simp[Value.ownBlock]at hk;omega
theorem clone_nt (b g N:Nat) (w:World) (hS:Sm N) (h0:N≠0) (hN:Nt w b g N):
 Calls Tryz.prog 117 #[.pointer (some ⟨b,0,none⟩)] w fun e w'=>∃b' g',e=.returned (.pointer (some ⟨b',0,none⟩))∧Nt w' b' g' N∧Fr (fun _=>False) w w'∧w.heap.size≤b'∧w.heap.size≤g':=by
 obtain⟨ws,⟨cap,T,hb,ho,hne⟩,h2,h3,rfl⟩:=hN;have hl:=hS.len h3;clear hS;have hw0:ws≠[]:=by rintro rfl;exact h0 rfl
 have hbc:=cell_of_one hb;go_enter Tryz.func117,Tryz.ntmps117
 go_wp2_with (go_at_call 169;refine(cloneWords_any g _ cap ws _ hl hw0 rfl ho).mono ?_;rintro e w' ⟨g',cap',rfl,r1,r2,r3⟩)
 go_ret;refine⟨_,g',rfl,⟨ws,⟨cap',213,heap_alloc_new _ _,r2.alloc _,?_⟩,h2,h3,rfl⟩,r3.alloc _,?_,r1⟩
 ·have:=ownsRow_lt r2;omega
 ·have:=r3.size;omega
def p10 (m:Nat):Nat:=10^m
theorem p10_succ (m:Nat):p10 (m+1)=p10 m*10:=Nat.pow_succ ..
theorem p10_pos (m:Nat):0<p10 m:=Nat.pow_pos (by omega)
theorem p10_le (m n:Nat) (h:m≤n):p10 m≤p10 n:=Nat.pow_le_pow_right (by omega) h
theorem p10_add (m n:Nat):p10 (m+n)=p10 m*p10 n:=Nat.pow_add ..
theorem Sm.mono {a b:Nat} (h:Sm b) (hl:a≤b):Sm a:=Nat.lt_of_le_of_lt hl h
theorem timesPowerOfTen_nt (b g N k:Nat) (w:World) (hS:Sm (N*p10 k)) (hN:Nt w b g N) (hk:k≤100000):
 Calls Tryz.prog 161 #[.pointer (some ⟨b,0,none⟩),.int .i64 k] w fun e w'=>e=.returned (.tuple #[])∧∃g',Nt w' b g' (N*p10 k)∧Fr (fun i=>i=b∨i=g) w w'∧(g'=g∨w.heap.size≤g'):=by
 have HS:Hid _:=hS;clear hS;go_enter Tryz.func161,Tryz.ntmps161;go_wp2
 go_loopw [1,4] (fun p _ wr=>∃(q:Int) (j g':Nat),p=.int .i64 q∧q≤100000∧ -9<q∧Hid (j+q.toNat=k)∧Nt wr b g' (N*p10 j)∧Fr (fun i=>i=b∨i=g) w wr∧(g'=g∨w.heap.size≤g')) (fun p _ _=>(intOf p).toNat)
 case atStart=>exact⟨k,0,g,rfl,by omega,by omega,by simp[Hid],by simpa[p10]using hN,Fr.refl _ _,.inl rfl⟩
 case round=>
  obtain⟨q,j,g',rfl,hq,hq0,hE,hNt,hF,hg⟩:=hrel;have hbl:=hNt.lt;have HN:Hid _:=hNt;have HF:Hid _:=hF;clear hNt hF;by_cases hpos:0<q
  ·go_wp2
   go_loop [4,9] (fun f i=>∃m:Nat,(m:Int)≤min q 9∧i=.int .i64 m∧f=.int .u32 (p10 m:Nat)) (fun _ i=>9-(intOf i).toNat)
   case atStart=>exact⟨0,by omega,rfl,rfl⟩
   case round=>
    obtain⟨m,hm,rfl,rfl⟩:=hrel;by_cases hlt:(m:Int)<min q 9
    ·have hp:=p10_le m 8 (by omega)
     have h8:p10 8=100000000:=rfl;rw[h8]at hp;have hs:Hid (p10 (m+1)=p10 m*10):=p10_succ m;go_wp2
     go_round
     case rel=>exact⟨m+1,by omega,by go_num,by rw[hs.out];go_num⟩
     case measure=>simp[intOf];omega
    ·have hp:=p10_le m 9 (by omega)
     have h9:p10 9=1000000000:=rfl;rw[h9]at hp;have hpp:=p10_pos m;have hjk:j+m≤k:=by have:=hE.out;omega
     have hsm:Hid (Sm (N*p10 j)):=Sm.mono (b:=N*p10 k) HS.out (Nat.mul_le_mul_left _ (p10_le _ _ (by omega)));have hke:Hid ((j+m)+(q-9).toNat=k):=by have:=hE.out;show _=_;omega
     go_wp2_with (go_at_call 122;refine(timesPlus_nt b g' _ (p10 m) 0 _ hsm.out (by omega) hpp (by omega) HN.out).mono ?_;rintro e w' ⟨rfl,g2,r1,r2,r3⟩)
     go_roundw
     case rel=>
      refine⟨q-9,j+m,g2,by go_num,by omega,by omega,hke,?_,HF.out.trans' r2 ?_,?_⟩
      ·rw[Nat.add_zero]at r1
       rw[p10_add,←Nat.mul_assoc,Nat.mul_comm _ (p10 m)];exact r1
      ·rintro i (hi|hi)
       ·exact .inl (.inl hi)
       ·rcases hg with hg|hg
        ·exact .inl (.inr (by omega))
        ·exact .inr (by omega)
      ·have:=HF.out.size
       omega
     case measure=>simp[intOf];omega
  ·go_wp2
   go_end0;have hE':=hE.out;have e0:q.toNat=0:=by omega
   rw[e0,Nat.add_zero]at hE';exact⟨rfl,g',by rw[←hE'];exact HN.out,HF.out,hg⟩
theorem row_pos {w:World} {base:Nat} {e:TypeId} {size:Nat} {v:Value} {k:Nat} {xs:List Value} (h:w.ownsRow base e size v k xs) (hk:0<k):∃g cap,v=.slice (some ⟨g,0,none⟩) k cap:=by
 rcases h.2 with⟨_,h2⟩|⟨g,cap,_,hv,_⟩
 ·omega
 ·exact⟨g,cap,hv⟩
theorem val_zeros (k:Nat) (ws:List Nat):val (List.replicate k 0++ws)=4294967296^k*val ws:=by
 rw[val_append,val_replicate,List.length_replicate];omega
theorem Limbs.zeros (k:Nat):Limbs (List.replicate k 0):=by intro x hx;rw[List.mem_replicate]at hx;omega
theorem top_zeros (k:Nat) (ws:List Nat) (h:Top ws) (h0:ws≠[]):Top (List.replicate k 0++ws):=by
 rcases List.eq_nil_or_concat ws with rfl|⟨i,x,rfl⟩
 ·exact absurd rfl h0
 ·rw[List.concat_eq_append]at*
  intro e;apply h;rw[←List.append_assoc]at e;simpa using e
theorem vs_zeros (W:Nat):vs (List.replicate W 0)=List.replicate W (Value.int .u32 0):=by simp[vs]
theorem made_zeros (W:Nat):(madeCells #[Value.int .u32 0] W).toList=vs (List.replicate W 0):=by rw[toList_madeCells_one,vs_zeros]
theorem Nt.put {w:World} {b g T:Nat} {u:Value} {cap n:Nat} {ws:List Nat} (hb:w.heap[b]? =some (.cells #[u] T (0,0))) (hn:ws.length=n) (ho:w.ownsRow 0 127 1 (.slice (some ⟨g,0,none⟩) n cap) n (vs ws)) (hne:b≠g) (h1:Limbs ws) (h2:Top ws):
 Nt (w.setCell ⟨b,0,none⟩ (.slice (some ⟨g,0,none⟩) n cap)) b g (val ws):=by
 subst hn;exact⟨ws,IsNat.put hb ho hne,h1,h2,rfl⟩
theorem part_lt (k:Nat):2^(k % 32)<4294967296:=Nat.lt_of_lt_of_le (Nat.pow_lt_pow_right (by omega) (Nat.mod_lt k (by omega:0<32))) (by decide)
theorem part_pow (k:Nat):(2:Int)^(k % 32) % 4294967296=((2^(k % 32):Nat):Int):=by
 have h:=part_lt k;have e:((2^(k % 32):Nat):Int)=(2:Int)^(k % 32):=by rw[Int.natCast_pow];rfl
 rw[←e];generalize 2^(k % 32)=t at h ⊢;omega
theorem shift_whole (b g:Nat) (ws:List Nat) (k:Nat) (w:World) (hl:ws.length≤1000) (hk:k≤30000) (hk32:32≤k) (h0:ws≠[]) (hN:IsNat w b g ws) (hws:Limbs ws) (htop:Top ws) (hS:Sm (4294967296^(k/32)*val ws)):
 Calls Tryz.prog 114 #[.pointer (some ⟨b,0,none⟩),.int .i64 k] w fun e w'=>e=.returned (.tuple #[])∧∃g',Nt w' b g' (2^(k % 32)*(4294967296^(k/32)*val ws))∧Fr (fun i=>i=b∨i=g) w w'∧(w.heap.size≤g'):=by
 obtain⟨cap,T,hb,ho,hne⟩:=hN;have hbc:=cell_of_one hb;have hbf:=free_of_one hb;have hpos:0<ws.length:=List.length_pos_iff.2 h0;have hT:Top (List.replicate (k/32) 0++ws):=top_zeros _ _ htop h0;have hL:Limbs (List.replicate (k/32) 0++ws):=(Limbs.zeros _).append hws;have HS:Hid _:=hS;have hlen:(List.replicate (k/32) 0++ws).length=((k:Int)/32).toNat+ws.length:=by simp;omega
 have HL:Hid _:=hlen;obtain⟨i0,hi,hz0,hz1,hz2⟩:=info_parts Tryz.info127;have hmk:=fun wx=>run_make (P:=Tryz.prog) wx 211 127 i0 (.int .u32 0) Tryz.underlying211 hi hz0 .i64 .i64 ((k:Int)/32) ((k:Int)/32) (by omega) (Int.le_refl _) (by rw[hz2];omega) (by omega)
 rw[hz1]at hmk;have hbl:=lt_of_block hb;have hgl:=ownsRow_lt ho;have hW:((k:Int)/32).toNat=k/32:=by omega
 have hlo:(vs (List.replicate (k/32) 0)).length=((k:Int)/32).toNat*1:=by rw[vs_length,List.length_replicate];omega
 have hnew:(w.alloc (.cells (madeCells #[Value.int .u32 0] ((k:Int)/32).toNat) 127)).drew.ownsRow 0 127 1 (.slice (some ⟨w.heap.size,0,none⟩) (k/32) (k/32)) (k/32) (vs (List.replicate (k/32) 0)):=by
  have:=World.ownsRow_lit w (e:=127) (size:=1) (base:=0) (madeCells #[Value.int .u32 0] ((k:Int)/32).toNat) (k/32) (Nat.zero_le _) (by unfold maxLen;omega) (by rw[size_madeCells];omega);rw[made_zeros,hW]at this;rw[hW];exact this.drew
 have holds:∀a:Addr,some (⟨w.heap.size,0,none⟩:Addr)=some a→∀j u,(vs (List.replicate (k/32) 0))[j]? =some u→(w.alloc (.cells (madeCells #[Value.int .u32 0] ((k:Int)/32).toNat) 127)).drew.cell? (a.add j)=some u:=by
  intro a ha;cases ha;exact hnew.cells (g:=w.heap.size) rfl
 have hnews:∀j u,(vs ws)[j]? =some u→(w.alloc (.cells (madeCells #[Value.int .u32 0] ((k:Int)/32).toNat) 127)).drew.cell? ((⟨g,0,none⟩:Addr).add j)=some u:=(ho.alloc _).drew.cells (g:=g) rfl;have hvl:(vs ws).length=ws.length*1:=by rw[vs_length];omega
 have hone:∀u∈vs ws,u.oneCell'=true:=by intro u hu;simp[vs]at hu;obtain⟨a,_,rfl⟩:=hu;rfl
 have hfull:((k:Int)/32).toNat<((k:Int)/32).toNat+ws.length:=by omega
 have hm1:((k:Int)/32).toNat+ws.length≤maxLen:=by unfold maxLen;omega
 have hm2:(((k:Int)/32).toNat+ws.length)*4≤140737488355328:=by omega
 have Hlo:Hid _:=hlo;have Hnew:Hid _:=hnew;have Holds:Hid _:=holds;have Hnews:Hid _:=hnews;have Hvl:Hid _:=hvl;have Hone:Hid _:=hone;have Hf:Fr (fun i=>i=b∨i=g) w (w.alloc (.cells (madeCells #[Value.int .u32 0] ((k:Int)/32).toNat) 127)).drew:=((Fr.refl _ w).alloc _).drew;clear h0 hlo hnew holds hnews hvl hone hW hS hlen;go_enter Tryz.func114,Tryz.ntmps114;go_wp2
 go_region_law (refine step_append_grows rfl _ _ 211 rfl 127 i0 (.int .u32 0) 1 4 Tryz.underlying211 hi hz0 hz1 hz2 rfl (by decide) (some ⟨w.heap.size,0,none⟩) ((k:Int)/32).toNat ((k:Int)/32).toNat (vs (List.replicate (k/32) 0)) rfl (fun h=>by cases h) Hlo.out Holds.out ⟨g,0,none⟩ ws.length cap (vs ws) rfl Hvl.out Hnews.out Hone.out hfull hm1 hm2 ?_;intro v' w1 hown hgrow;obtain⟨g',cap',rfl⟩:=row_pos hown (by omega);have hb1:w1.heap[b]? =some (.cells #[.slice (some ⟨g,0,none⟩) ws.length cap] T (0,0)):=((hgrow.block b (by show b<(w.alloc _).heap.size;simp;omega) (by simp)).trans (Below.heap_alloc w _ b hbl)).trans hb;have hc1:=cell_of_one hb1;have hf1:=free_of_one hb1)
 all_goals
  have hgg:w.heap.size+1≤g':=by have:=(hown.lt g' rfl).1;simpa using this
  have hbg:b≠g':=by omega
  have hN2:Nt (w1.setCell ⟨b,0,none⟩ (.slice (some ⟨g',0,none⟩) (((k:Int)/32).toNat+ws.length) cap')) b g' (val (List.replicate (k/32) 0++ws)):=Nt.put hb1 HL.out (by rw[vs_append];exact ownsRow_base hown) hbg hL hT;have hF2:Fr (fun i=>i=b∨i=g) w (w1.setCell ⟨b,0,none⟩ (.slice (some ⟨g',0,none⟩) (((k:Int)/32).toNat+ws.length) cap')):=(Hf.grown hgrow (fun i hi=>by cases hi)).setCell (.inl (.inl rfl)) _;rw[val_zeros]at hN2;clear hb1 hc1 hf1 hown hgrow Hf Hlo Hnew Holds Hnews Hvl Hone hmk hfull hm1 hm2 HL hL hT hbc hbf ho hb htop hws;generalize w1.setCell ⟨b,0,none⟩ (.slice (some ⟨g',0,none⟩) (((k:Int)/32).toNat+ws.length) cap')=W2 at hN2 hF2 ⊢;by_cases hpart:k % 32=0
  ·go_wp2
   go_end0;exact⟨rfl,g',by rw[hpart];simpa using hN2,hF2,by omega⟩
  ·have hpp:0<k % 32:=by omega
   go_wp2_with fail
   rw[part_pow k];refine(timesPlus_nt b g' _ (2^(k % 32)) 0 _ HS.out (part_lt k) (Nat.two_pow_pos _) (by omega) hN2).mono ?_;rintro e w' ⟨rfl,g2,r1,r2,r3⟩;go_wp2;go_end0;refine⟨rfl,g2,by rw[Nat.add_zero]at r1;exact r1,hF2.trans' r2 ?_,?_⟩
   ·rintro i (hi|hi)
    ·exact .inl (.inl hi)
    ·exact .inr (by omega)
   ·have:=hF2.size;omega
theorem shift_part (b g N:Nat) (k:Nat) (w:World) (hk:k≤30000) (hN:Nt w b g N) (h0:k<32∨N=0) (hS:Sm N):
 Calls Tryz.prog 114 #[.pointer (some ⟨b,0,none⟩),.int .i64 k] w fun e w'=>e=.returned (.tuple #[])∧∃g',Nt w' b g' (2^(k % 32)*N)∧Fr (fun i=>i=b∨i=g) w w'∧(g'=g∨w.heap.size≤g'):=by
 have HS:Hid _:=hS;clear hS;have HN:Hid _:=hN;obtain⟨ws,⟨cap,T,hb,ho,hne⟩,h2,h3,h4⟩:=hN;have hbc:=cell_of_one hb
 have hcases:k<32∨(32≤k∧ws.length≤0):=by
  rcases h0 with h0|h0
  ·exact .inl h0
  ·rcases Nat.lt_or_ge k 32 with h|h
   ·exact .inl h
   ·refine .inr ⟨h,?_⟩
    rw[val_zero ws h3 (by omega)];simp
 clear h0 h4 h3 h2 ho;rcases hcases with hc|⟨hc,hwl⟩
 all_goals
  by_cases hpart:k % 32=0
  ·go_enter Tryz.func114,Tryz.ntmps114
   go_wp2;go_end0;exact⟨rfl,g,by first|exact HN.out|(rw[hpart,Nat.pow_zero,Nat.one_mul];exact HN.out),Fr.refl _ _,.inl rfl⟩
  ·have hpp:0<k % 32:=by omega
   go_enter Tryz.func114,Tryz.ntmps114
   go_wp2_with fail
   rw[part_pow k];refine(timesPlus_nt b g _ (2^(k % 32)) 0 _ HS.out (part_lt k) (Nat.two_pow_pos _) (by omega) HN.out).mono ?_;rintro e w' ⟨rfl,g2,r1,r2,r3⟩;go_wp2;go_end0;exact⟨rfl,g2,by rw[Nat.add_zero]at r1;exact r1,r2,r3⟩
theorem shiftLeft_nt (b g N k:Nat) (w:World) (hk:k≤30000) (hN:Nt w b g N) (hS:Sm (2^k*N)):
 Calls Tryz.prog 114 #[.pointer (some ⟨b,0,none⟩),.int .i64 k] w fun e w'=>e=.returned (.tuple #[])∧∃g',Nt w' b g' (2^k*N)∧Fr (fun i=>i=b∨i=g) w w'∧(g'=g∨w.heap.size≤g'):=by
 have e1:2^k=2^(k % 32)*4294967296^(k/32):=by rw[pow32,←Nat.pow_add];congr 1;omega
 have hNle:N≤2^k*N:=Nat.le_mul_of_pos_left _ (Nat.two_pow_pos _);by_cases hN0:N=0
 ·subst hN0
  have:=shift_part b g 0 k w hk hN (.inr rfl) (Sm.mono hS (by omega));simpa using this
 ·by_cases hk32:k<32
  ·have:=shift_part b g N k w hk hN (.inl hk32) (Sm.mono hS hNle)
   rwa[Nat.mod_eq_of_lt hk32]at this
  ·obtain⟨ws,h1,h2,h3,h4⟩:=hN
   have hS2:Sm (4294967296^(k/32)*val ws):=by
    refine Sm.mono hS ?_;rw[e1,h4,Nat.mul_assoc];exact Nat.le_mul_of_pos_left _ (Nat.two_pow_pos _)
   have hl:ws.length≤1000:=Sm.len (by rw[h4];exact Sm.mono hS hNle) h3;refine(shift_whole b g ws k w hl hk (by omega) (by rintro rfl;exact hN0 h4.symm) h1 h2 h3 hS2).mono ?_;rintro e w' ⟨rfl,g',r1,r2,r3⟩;refine⟨rfl,g',?_,r2,.inr r3⟩;rw[←Nat.mul_assoc,←e1,h4]at r1;exact r1
end Go.Proofs.YtmkkibaacclhnaaGreatDoor
