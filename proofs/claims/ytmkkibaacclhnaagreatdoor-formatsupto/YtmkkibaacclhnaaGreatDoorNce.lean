/-
  Part Nce.
-/
import Derived.Test.YtmkkibaacclhnaaGreatDoorNab
import Derived.Lib.Walk
import Derived.Lib.BitFns
import Derived.Deep.Light
import Derived.Deep.RegionWith
import Derived.Deep.RegionLawGrows
namespace Go.Proofs.YtmkkibaacclhnaaGreatDoor
open Go.RowKit
set_option maxRecDepth 100000
set_option maxHeartbeats 16000000
theorem D3u:(Lib.len8tab.size:Int)=256:=by
 have:Lib.len8tab.size=256:=by decide
 omega
theorem t8 (y:Int) (h:y.toNat<Lib.len8tab.size) (b:0<=y) (a:y<=255):((Lib.len8tab[y.toNat]'h).toNat:Int)=(Lib.bitLen y.toNat:Int):=by
 have:=Lib.len8_of y b a;unfold Lib.len8 at this;rw[getElem?_pos Lib.len8tab y.toNat h]at this;exact this
theorem E8q (k:Nat) (h:k<=56) (x y a:Int) (c:a=(Lib.bitLen y.toNat:Int)) (g:0<=y) (f:y<=255) (d:x.toNat<18446744073709551616) (b:2^k<=x.toNat) (e:y.toNat=x.toNat/2^k):
 wrap64 ((k:Int)+wrap64 a)=(Lib.bitLen x.toNat:Int):=by
 have s:Lib.bitLen x.toNat=k+Lib.bitLen (x.toNat/2^k):=Lib.bitLen_shift k _ b d;have l:=Lib.bitLen_le8' y g f;rw[s,c,<-e];clear s b e d c;generalize Lib.bitLen y.toNat=m at l ⊢;unfold wrap64;omega
theorem G0b (x a:Int) (b:a=(Lib.bitLen x.toNat:Int)) (d:0<=x) (c:x<=255):wrap64 (wrap64 a)=(Lib.bitLen x.toNat:Int):=by
 have l:=Lib.bitLen_le8' x d c;rw[b];unfold wrap64;omega
theorem B4e (x:Int) (w:World) (c:0<=x) (a:x<=18446744073709551615):
 Calls Tryz.prog 116 #[.int .u64 x] w λe w'=>e=.returned (.int .i64 (Lib.bitLen x.toNat))/\w'=w:=by
 go_enter Tryz.func116,Tryz.ntmps116;go_wp2
 all_goals first
  |(go_ret;refine⟨congrArg Ending.returned (congrArg (Value.int IntKind.i64) ?_),rfl⟩;go_light)
  |(exfalso;go_light;have b:=D3u;omega)
 all_goals first
  |exact E8q 56 (by decide) x (x/4294967296/65536/256) _ (t8 (x/4294967296/65536/256) _ (by omega) (by omega)) (by omega) (by omega) (by omega) (by omega) (by omega)
  |exact E8q 48 (by decide) x (x/4294967296/65536) _ (t8 (x/4294967296/65536) _ (by omega) (by omega)) (by omega) (by omega) (by omega) (by omega) (by omega)
  |exact E8q 40 (by decide) x (x/4294967296/256) _ (t8 (x/4294967296/256) _ (by omega) (by omega)) (by omega) (by omega) (by omega) (by omega) (by omega)
  |exact E8q 32 (by decide) x (x/4294967296) _ (t8 (x/4294967296) _ (by omega) (by omega)) (by omega) (by omega) (by omega) (by omega) (by omega)
  |exact E8q 24 (by decide) x (x/65536/256) _ (t8 (x/65536/256) _ (by omega) (by omega)) (by omega) (by omega) (by omega) (by omega) (by omega)
  |exact E8q 16 (by decide) x (x/65536) _ (t8 (x/65536) _ (by omega) (by omega)) (by omega) (by omega) (by omega) (by omega) (by omega)
  |exact E8q 8 (by decide) x (x/256) _ (t8 (x/256) _ (by omega) (by omega)) (by omega) (by omega) (by omega) (by omega) (by omega)
  |exact G0b x _ (t8 x _ (by omega) (by omega)) (by omega) (by omega)
theorem E0x (x:Int) (w:World) (c:0<=x) (a:x<=4294967295):
 Calls Tryz.prog 196 #[.int .u32 x] w λe w'=>e=.returned (.int .i64 (Lib.bitLen x.toNat))/\w'=w:=by
 go_enter Tryz.func196,Tryz.ntmps196;go_wp2
 all_goals first
  |(go_ret;refine⟨congrArg Ending.returned (congrArg (Value.int IntKind.i64) ?_),rfl⟩;go_light)
  |(exfalso;go_light;have b:=D3u;omega)
 all_goals first
  |exact E8q 24 (by decide) x (x/65536/256) _ (t8 (x/65536/256) _ (by omega) (by omega)) (by omega) (by omega) (by omega) (by omega) (by omega)
  |exact E8q 16 (by decide) x (x/65536) _ (t8 (x/65536) _ (by omega) (by omega)) (by omega) (by omega) (by omega) (by omega) (by omega)
  |exact E8q 8 (by decide) x (x/256) _ (t8 (x/256) _ (by omega) (by omega)) (by omega) (by omega) (by omega) (by omega) (by omega)
  |exact G0b x _ (t8 x _ (by omega) (by omega)) (by omega) (by omega)
theorem G3j (x:Nat) (a:x<4294967296):x.testBit 31=decide (2147483648<=x):=by
 rw[Nat.testBit_eq_decide_div_mod_eq];by_cases h:2147483648<=x
 ·simp[h];omega
 ·simp[h];omega
def bo (x y c:Nat):Nat:=if x<y+c then 1 else 0
theorem D6m (x y d:Nat) (c:Nat) (j:x<4294967296) (i:y<4294967296) (l:c<=1) (m:d=(x+8589934592-y-c) % 4294967296):
 (((4294967295^^^x)&&&y)|||((4294967295^^^(x^^^y))&&&d))/2147483648=bo x y c:=by
 have f:d<4294967296:=by omega
 have k:(((4294967295^^^x)&&&y)|||((4294967295^^^(x^^^y))&&&d))<2^32:=
  Nat.or_lt_two_pow (Nat.lt_of_le_of_lt Nat.and_le_right i) (Nat.lt_of_le_of_lt Nat.and_le_right f)
 generalize g:(((4294967295^^^x)&&&y)|||((4294967295^^^(x^^^y))&&&d))=Z at k
 have h:Z.testBit 31=((!(decide (2147483648<=x))&&decide (2147483648<=y))||(!(decide (2147483648<=x)^^decide (2147483648<=y))&&decide (2147483648<=d))):=by
  rw[<-g];simp only[Nat.testBit_or,Nat.testBit_and,Nat.testBit_xor,G3j x j,G3j y i,G3j d f,show Nat.testBit 4294967295 31=true from by decide,Bool.true_xor]
 rw[G3j Z (by omega)]at h;clear g;by_cases a:2147483648<=x<;>by_cases b:2147483648<=y<;>by_cases e:2147483648<=d<;>simp[a,b,e]at h<;>unfold bo<;>split<;>omega
theorem C7m (x y c:Nat) (w:World) (a:x<4294967296) (d:y<4294967296) (g:c<=1):
 Calls Tryz.prog 170 #[.int .u32 x,.int .u32 y,.int .u32 c] w λe w'=>e=.returned (.tuple #[.int .u32 ((x+8589934592-y-c) % 4294967296:Nat),.int .u32 (bo x y c:Nat)])/\w'=w:=by
 have f:=D6m x y _ c a d g rfl;have i:Hid _:=f;clear f;go_enter Tryz.func170,Tryz.ntmps170;go_wp2;go_ret2;have h:IntKind.u32.max=((4294967295:Nat):Int):=by decide
 have k:((x:Int)-y-c) % 4294967296=(((x+8589934592-y-c) % 4294967296:Nat):Int):=by omega
 refine⟨congrArg Ending.returned (congrArg Value.tuple ?_),rfl⟩
 show#[Value.int IntKind.u32 _,Value.int IntKind.u32 _]=_
 rw[h,k];have b:x^^^y<4294967296:=Nat.xor_lt_two_pow (n:=32) a d;rw[u32_xor_nat x y a d,u32_xor_nat 4294967295 _ (by omega) b,u32_xor_nat 4294967295 _ (by omega) a];have j:4294967295^^^(x^^^y)<4294967296:=Nat.xor_lt_two_pow (n:=32) (by omega) b;have l:4294967295^^^x<4294967296:=Nat.xor_lt_two_pow (n:=32) (by omega) a;rw[u32_and_nat _ _ j (by omega),u32_and_nat _ _ l d,u32_or_nat _ _ (Nat.lt_of_le_of_lt Nat.and_le_right d) (Nat.lt_of_le_of_lt Nat.and_le_right (by omega))];rw[<-i.out];rfl
def A2x (n:Nat):Nat:=if n=0 then 0 else Nat.log2 n+1
theorem C4h (n:Nat):n<2^A2x n:=by
 unfold A2x;split
 ·omega
 ·exact Nat.lt_log2_self
theorem B8s (n:Nat) (h:n≠0):2^A2x n<=2*n:=by
 unfold A2x;rw[if_neg h,Nat.pow_succ];have:=Nat.log2_self_le h;omega
theorem E0y (n L:Nat) (e:n≠0) (f:n<2^L) (g:2^L<=2*n):A2x n=L:=by
 have a:=C4h n;have b:=B8s n e;have c:2^A2x n<2^(L+1):=by rw[Nat.pow_succ];omega
 have d:2^L<2^(A2x n+1):=by rw[Nat.pow_succ];omega
 have:=(Nat.pow_lt_pow_iff_right (by omega:1<2)).1 c;have:=(Nat.pow_lt_pow_iff_right (by omega:1<2)).1 d;omega
theorem C2p:∀f x:Nat,x<2^f->x<2^Lib.bitLenAux f x/\(x≠0->2^Lib.bitLenAux f x<=2*x)
 |0,x,h=>by simp[Lib.bitLenAux];omega
 |f+1,x,h=>by
  rw[Nat.pow_succ]at h;unfold Lib.bitLenAux;by_cases c:x=0
  ·simp[c]
  ·rw[if_neg c]
   obtain⟨a,b⟩:=C2p f (x/2) (by omega);rw[Nat.add_comm 1,Nat.pow_succ];refine⟨by omega,λ_=>?_⟩;by_cases d:x/2=0
   ·have e:Lib.bitLenAux f 0=0:=by cases f<;>simp[Lib.bitLenAux]
    rw[d,e];omega
   ·have:=b d;omega
theorem A8i (x:Nat) (h:x<18446744073709551616):Lib.bitLen x=A2x x:=by
 obtain⟨a,b⟩:=C2p 64 x h;by_cases c:x=0
 ·subst c;rfl
 ·exact(E0y x _ c a (b c)).symm
theorem F6c (k:Nat):4294967296^k=2^(32*k):=by rw[show(4294967296:Nat)=2^32 from rfl,<-Nat.pow_mul]
theorem D6n (i:List Nat) (x:Nat) (f:A1w i) (d:x≠0):A2x (val (i++[x]))=i.length*32+A2x x:=by
 have a:=C7j i f;have b:=C4h x;have c:=B8s x d;rw[A5q,F6c]at*;rw[Nat.mul_comm i.length 32];have g:0<2^(32*i.length):=Nat.two_pow_pos _;apply E0y
 ·have:0<2^(32*i.length)*x:=Nat.mul_pos g (by omega)
  omega
 ·rw[Nat.pow_add]
  have:2^(32*i.length)*(x+1)<=2^(32*i.length)*2^A2x x:=Nat.mul_le_mul_left _ (by omega);rw[Nat.mul_add]at this;omega
 ·rw[Nat.pow_add]
  have:2^(32*i.length)*2^A2x x<=2^(32*i.length)*(2*x):=Nat.mul_le_mul_left _ c;have e:2^(32*i.length)*(2*x)=2*(2^(32*i.length)*x):=by rw[Nat.mul_left_comm]
  omega
theorem B1j (n k:Nat) (h:n<2^k):A2x n<=k:=by
 by_cases a:n=0
 ·simp[A2x,a]
 ·have b:=B8s n a
  have c:2^A2x n<2^(k+1):=by rw[Nat.pow_succ];omega
  have:=(Nat.pow_lt_pow_iff_right (by omega:1<2)).1 c;omega
theorem E0z (b g N:Nat) (w:World) (l:Sm N) (p:Nt w b g N):
 Calls Tryz.prog 162 #[.pointer (some ⟨b,0,none⟩)] w λe w'=>e=.returned (.int .i64 (A2x N:Nat))/\w'=w:=by
 obtain⟨ws,⟨cap,T,m,h,r⟩,o,n,rfl⟩:=p;have s:=l.len n;clear l;have c:=cell_of_one m;rcases List.eq_nil_or_concat ws with rfl|⟨i,x,rfl⟩
 ·go_enter Tryz.func162,Tryz.ntmps162
  simp only[List.length_nil]at*;go_wp2;go_ret;exact⟨rfl,rfl⟩
 ·rw[List.concat_eq_append]at*
  have j:x≠0:=by intro e;apply n;simp[e]
  have q:x<4294967296:=o x (by simp);have f:=B2e h i.length (by simp);rw[List.getElem_concat_length rfl (by simp)]at f;have k:=D6n i x o.left j;have d:Hid _:=k;clear k;have t:=B1j x 32 q;have a:=A2a h;have u:(((i.length+1:Nat):Int)==0)=false:=by simp;omega
  simp only[List.length_append,List.length_cons,List.length_nil,Nat.zero_add]at m h c s a;go_enter Tryz.func162,Tryz.ntmps162
  go_wp2_with (go_at_call 196;refine(E0x _ _ (by omega) (by omega)).mono ?_;rintro e w' ⟨rfl,rfl⟩;rw[Int.toNat_natCast,A8i _ (by omega)])
  go_ret;refine⟨congrArg Ending.returned (congrArg (Value.int IntKind.i64) ?_),rfl⟩;rw[d.out];omega
theorem C1g (g n cap:Nat) (ws:List Nat) (w:World) (H:ws.length<=1000) (B:ws≠[]) (l:ws.length=n) (E:w.ownsRow 0 127 1 (.slice (some ⟨g,0,none⟩) n cap) n (vs ws)):
 Calls Tryz.prog 169 #[.slice (some ⟨g,0,none⟩) n cap] w λe w'=>∃i c,e=.returned (.slice (some ⟨i,0,none⟩) n c)/\w.heap.size<=i/\w'.ownsRow 0 127 1 (.slice (some ⟨i,0,none⟩) n c) n (vs ws)/\Fr (λ_=>False) w w':=by
 have x:0<n:=by rw[<-l];exact List.length_pos_iff.2 B
 obtain⟨C,y,o,q,m⟩:=info_parts Tryz.info127;have t:=λwx=>Lib.run_eql_slice_nil (P:=Tryz.prog) wx 211 127 (some ⟨g,0,none⟩) n cap 0 0 Tryz.underlying211
 have A:Hid _:=l;have p:(vs ws).length=n*1:=by rw[B8p,l];omega
 clear l;have D:n<=1000:=by have:=A.out;omega
 have j:∀u∈vs ws,u.oneCell'=true:=by intro u v;simp[vs]at v;obtain⟨a,_,rfl⟩:=v;rfl
 have z:(w.alloc (.cells #[] 127)).ownsRow 0 127 1 (.slice (some ⟨w.heap.size,0,none⟩) 0 0) 0 []:=World.ownsRow_lit w (size:=1) #[] 0 (Nat.zero_le _) (by decide) rfl;go_enter Tryz.func169,Tryz.ntmps169
 go_wp2_with (at_builtin;refine A0g _ rfl _ _ 211 rfl 127 C (.int .u32 0) 1 4 Tryz.underlying211 y o q m rfl (by decide) _ _ _ rfl z ⟨g,0,none⟩ n cap (vs ws) rfl p ?c1 j ?c3 ?c4 ?_)
 case c1=>exact(E.alloc _).cells (g:=g) rfl
 case c3=>unfold maxLen;omega
 case c4=>omega
 intro F G d f b;obtain⟨s,rfl⟩:∃s,n=s+1:=⟨n-1,by omega⟩;obtain⟨i,c,rfl⟩:=A4g d;have r:=b i rfl;clear b;go_wp2;go_ret;refine⟨i,c,rfl,?_,d,((Fr.refl _ w).alloc _).grown f (λk hk=>.inr ?_)⟩
 ·rcases r with h|h
  ·simp[Value.ownBlock]at h;omega
  ·omega
 ·simp[Value.ownBlock]at hk;omega
theorem E8w (b g N:Nat) (w:World) (h:Sm N) (n:N≠0) (l:Nt w b g N):
 Calls Tryz.prog 117 #[.pointer (some ⟨b,0,none⟩)] w λe w'=>∃b' c,e=.returned (.pointer (some ⟨b',0,none⟩))/\Nt w' b' c N/\Fr (λ_=>False) w w'/\w.heap.size<=b'/\w.heap.size<=c:=by
 obtain⟨ws,⟨cap,T,q,p,m⟩,s,j,rfl⟩:=l;have o:=h.len j;clear h;have d:ws≠[]:=by rintro rfl;exact n rfl
 have k:=cell_of_one q;go_enter Tryz.func117,Tryz.ntmps117
 go_wp2_with (go_at_call 169;refine(C1g g _ cap ws _ o d rfl p).mono ?_;rintro e w' ⟨c,a,rfl,r,f,i⟩)
 go_ret;refine⟨_,c,rfl,⟨ws,⟨a,213,heap_alloc_new _ _,f.alloc _,?_⟩,s,j,rfl⟩,i.alloc _,?_,r⟩
 ·have:=A9u f;omega
 ·have:=i.size;omega
def p10 (m:Nat):Nat:=10^m
theorem A1z (m:Nat):p10 (m+1)=p10 m*10:=Nat.pow_succ ..
theorem A0v (m:Nat):0<p10 m:=Nat.pow_pos (by omega)
theorem A3r (m n:Nat) (h:m<=n):p10 m<=p10 n:=Nat.pow_le_pow_right (by omega) h
theorem A1h (m n:Nat):p10 (m+n)=p10 m*p10 n:=Nat.pow_add ..
theorem Sm.mono {a b:Nat} (h:Sm b) (c:a<=b):Sm a:=Nat.lt_of_le_of_lt c h
theorem A9b (b g N k:Nat) (w:World) (x:Sm (N*p10 k)) (E:Nt w b g N) (P:k<=100000):
 Calls Tryz.prog 161 #[.pointer (some ⟨b,0,none⟩),.int .i64 k] w λe w'=>e=.returned (.tuple #[])/\∃a,Nt w' b a (N*p10 k)/\Fr (λi=>i=b\/i=g) w w'/\(a=g\/w.heap.size<=a):=by
 have G:Hid _:=x;clear x;go_enter Tryz.func161,Tryz.ntmps161;go_wp2
 go_loopw [1,4] (λp _ wr=>∃(q:Int) (j a:Nat),p=.int .i64 q/\q<=100000/\ -9<q/\Hid (j+q.toNat=k)/\Nt wr b a (N*p10 j)/\Fr (λi=>i=b\/i=g) w wr/\(a=g\/w.heap.size<=a)) (λp _ _=>(intOf p).toNat)
 case atStart=>exact⟨k,0,g,rfl,by omega,by omega,by simp[Hid],by simpa[p10]using E,Fr.refl _ _,.inl rfl⟩
 case round=>
  obtain⟨q,j,a,rfl,O,I,s,c,y,h⟩:=hrel;have L:=c.lt;have v:Hid _:=c;have r:Hid _:=y;clear c y;by_cases A:0<q
  ·go_wp2
   go_loop [4,9] (λf i=>∃m:Nat,(m:Int)<=min q 9/\i=.int .i64 m/\f=.int .u32 (p10 m:Nat)) (λ_ i=>9-(intOf i).toNat)
   case atStart=>exact⟨0,by omega,rfl,rfl⟩
   case round=>
    obtain⟨m,Q,rfl,rfl⟩:=hrel;by_cases K:(m:Int)<min q 9
    ·have n:=A3r m 8 (by omega)
     have D:p10 8=100000000:=rfl;rw[D]at n;have M:Hid (p10 (m+1)=p10 m*10):=A1z m;go_wp2
     go_round
     case rel=>exact⟨m+1,by omega,by go_num,by rw[M.out];go_num⟩
     case measure=>simp[intOf];omega
    ·have n:=A3r m 9 (by omega)
     have H:p10 9=1000000000:=rfl;rw[H]at n;have t:=A0v m;have J:j+m<=k:=by have:=s.out;omega
     have l:Hid (Sm (N*p10 j)):=Sm.mono (b:=N*p10 k) G.out (Nat.mul_le_mul_left _ (A3r _ _ (by omega)));have o:Hid ((j+m)+(q-9).toNat=k):=by have:=s.out;show _=_;omega
     go_wp2_with (go_at_call 122;refine(A6w b a _ (p10 m) 0 _ l.out (by omega) t (by omega) v.out).mono ?_;rintro e w' ⟨rfl,B,z,C,R⟩)
     go_roundw
     case rel=>
      refine⟨q-9,j+m,B,by go_num,by omega,by omega,o,?_,r.trans' C ?_,?_⟩
      ·rw[Nat.add_zero]at z
       rw[A1h,<-Nat.mul_assoc,Nat.mul_comm _ (p10 m)];exact z
      ·rintro i (u|u)
       ·exact .inl (.inl u)
       ·rcases h with h|h
        ·exact .inl (.inr (by omega))
        ·exact .inr (by omega)
      ·have:=r.size
       omega
     case measure=>simp[intOf];omega
  ·go_wp2
   go_end0;have d:=s.out;have F:q.toNat=0:=by omega
   rw[F,Nat.add_zero]at d;exact⟨rfl,a,by rw[<-d];exact v.out,r.out,h⟩
theorem A9r {w:World} {base:Nat} {e:TypeId} {size:Nat} {v:Value} {k:Nat} {xs:List Value} (h:w.ownsRow base e size v k xs) (b:0<k):∃g cap,v=.slice (some ⟨g,0,none⟩) k cap:=by
 rcases h.2 with⟨_,c⟩|⟨g,cap,_,a,_⟩
 ·omega
 ·exact⟨g,cap,a⟩
theorem C7n (k:Nat) (ws:List Nat):val (List.replicate k 0++ws)=4294967296^k*val ws:=by
 rw[A8a,B4c,List.length_replicate];omega
theorem A1w.zeros (k:Nat):A1w (List.replicate k 0):=by intro x a;rw[List.mem_replicate]at a;omega
theorem E1a (k:Nat) (ws:List Nat) (h:Top ws) (a:ws≠[]):Top (List.replicate k 0++ws):=by
 rcases List.eq_nil_or_concat ws with rfl|⟨i,x,rfl⟩
 ·exact absurd rfl a
 ·rw[List.concat_eq_append]at*
  intro e;apply h;rw[<-List.append_assoc]at e;simpa using e
theorem E8x (W:Nat):vs (List.replicate W 0)=List.replicate W (Value.int .u32 0):=by simp[vs]
theorem D6p (W:Nat):(madeCells #[Value.int .u32 0] W).toList=vs (List.replicate W 0):=by rw[toList_madeCells_one,E8x]
theorem Nt.put {w:World} {b g T:Nat} {u:Value} {cap n:Nat} {ws:List Nat} (d:w.heap[b]? =some (.cells #[u] T (0,0))) (e:ws.length=n) (c:w.ownsRow 0 127 1 (.slice (some ⟨g,0,none⟩) n cap) n (vs ws)) (a:b≠g) (f:A1w ws) (h:Top ws):
 Nt (w.setCell ⟨b,0,none⟩ (.slice (some ⟨g,0,none⟩) n cap)) b g (val ws):=by
 subst e;exact⟨ws,A6f.put d c a,f,h,rfl⟩
theorem B8t (k:Nat):2^(k % 32)<4294967296:=Nat.lt_of_lt_of_le (Nat.pow_lt_pow_right (by omega) (Nat.mod_lt k (by omega:0<32))) (by decide)
theorem C4i (k:Nat):(2:Int)^(k % 32) % 4294967296=((2^(k % 32):Nat):Int):=by
 have h:=B8t k;have e:((2^(k % 32):Nat):Int)=(2:Int)^(k % 32):=by rw[Int.natCast_pow];rfl
 rw[<-e];generalize 2^(k % 32)=t at h ⊢;omega
theorem D0x (b g:Nat) (ws:List Nat) (k:Nat) (w:World) (hl:ws.length<=1000) (hk:k<=30000) (a0:32<=k) (Q:ws≠[]) (hN:A6f w b g ws) (A:A1w ws) (t:Top ws) (hS:Sm (4294967296^(k/32)*val ws)):
 Calls Tryz.prog 114 #[.pointer (some ⟨b,0,none⟩),.int .i64 k] w λe w'=>e=.returned (.tuple #[])/\∃f,Nt w' b f (2^(k % 32)*(4294967296^(k/32)*val ws))/\Fr (λi=>i=b\/i=g) w w'/\(w.heap.size<=f):=by
 obtain⟨cap,T,I,V,a4⟩:=hN;have O:=cell_of_one I;have S:=free_of_one I;have Y:0<ws.length:=List.length_pos_iff.2 Q;have hT:Top (List.replicate (k/32) 0++ws):=E1a _ _ t Q;have hL:A1w (List.replicate (k/32) 0++ws):=(A1w.zeros _).append A;have HS:Hid _:=hS;have v:(List.replicate (k/32) 0++ws).length=((k:Int)/32).toNat+ws.length:=by simp;omega
 have W:Hid _:=v;obtain⟨Z,z,B,C,E⟩:=info_parts Tryz.info127;have F:=λwx=>run_make (P:=Tryz.prog) wx 211 127 Z (.int .u32 0) Tryz.underlying211 z B .i64 .i64 ((k:Int)/32) ((k:Int)/32) (by omega) (Int.le_refl _) (by rw[E];omega) (by omega)
 rw[C]at F;have R:=lt_of_block I;have a1:=A9u V;have M:((k:Int)/32).toNat=k/32:=by omega
 have G:(vs (List.replicate (k/32) 0)).length=((k:Int)/32).toNat*1:=by rw[B8p,List.length_replicate];omega
 have o:(w.alloc (.cells (madeCells #[Value.int .u32 0] ((k:Int)/32).toNat) 127)).drew.ownsRow 0 127 1 (.slice (some ⟨w.heap.size,0,none⟩) (k/32) (k/32)) (k/32) (vs (List.replicate (k/32) 0)):=by
  have:=World.ownsRow_lit w (e:=127) (size:=1) (base:=0) (madeCells #[Value.int .u32 0] ((k:Int)/32).toNat) (k/32) (Nat.zero_le _) (by unfold maxLen;omega) (by rw[size_madeCells];omega);rw[D6p,M]at this;rw[M];exact this.drew
 have p:∀a:Addr,some (⟨w.heap.size,0,none⟩:Addr)=some a->∀j u,(vs (List.replicate (k/32) 0))[j]? =some u->(w.alloc (.cells (madeCells #[Value.int .u32 0] ((k:Int)/32).toNat) 127)).drew.cell? (a.add j)=some u:=by
  intro a ha;cases ha;exact o.cells (g:=w.heap.size) rfl
 have n:∀j u,(vs ws)[j]? =some u->(w.alloc (.cells (madeCells #[Value.int .u32 0] ((k:Int)/32).toNat) 127)).drew.cell? ((⟨g,0,none⟩:Addr).add j)=some u:=(V.alloc _).drew.cells (g:=g) rfl;have J:(vs ws).length=ws.length*1:=by rw[B8p];omega
 have x:∀u∈vs ws,u.oneCell'=true:=by intro u hu;simp[vs]at hu;obtain⟨a,_,rfl⟩:=hu;rfl
 have m:((k:Int)/32).toNat<((k:Int)/32).toNat+ws.length:=by omega
 have D:((k:Int)/32).toNat+ws.length<=maxLen:=by unfold maxLen;omega
 have H:(((k:Int)/32).toNat+ws.length)*4<=140737488355328:=by omega
 have Hlo:Hid _:=G;have Hnew:Hid _:=o;have Holds:Hid _:=p;have Hnews:Hid _:=n;have Hvl:Hid _:=J;have Hone:Hid _:=x;have Hf:Fr (λi=>i=b\/i=g) w (w.alloc (.cells (madeCells #[Value.int .u32 0] ((k:Int)/32).toNat) 127)).drew:=((Fr.refl _ w).alloc _).drew;clear Q G o p n J x M hS v;go_enter Tryz.func114,Tryz.ntmps114;go_wp2
 go_region_law (refine step_append_grows rfl _ _ 211 rfl 127 Z (.int .u32 0) 1 4 Tryz.underlying211 z B C E rfl (by decide) (some ⟨w.heap.size,0,none⟩) ((k:Int)/32).toNat ((k:Int)/32).toNat (vs (List.replicate (k/32) 0)) rfl (λh=>by cases h) Hlo.out Holds.out ⟨g,0,none⟩ ws.length cap (vs ws) rfl Hvl.out Hnews.out Hone.out m D H ?_;intro v' K d c;obtain⟨f,l,rfl⟩:=A9r d (by omega);have q:K.heap[b]? =some (.cells #[.slice (some ⟨g,0,none⟩) ws.length cap] T (0,0)):=((c.block b (by show b<(w.alloc _).heap.size;simp;omega) (by simp)).trans (Below.heap_alloc w _ b R)).trans I;have U:=cell_of_one q;have L:=free_of_one q)
 all_goals
  have a2:w.heap.size+1<=f:=by have:=(d.lt f rfl).1;simpa using this
  have N:b≠f:=by omega
  have r:Nt (K.setCell ⟨b,0,none⟩ (.slice (some ⟨f,0,none⟩) (((k:Int)/32).toNat+ws.length) l)) b f (val (List.replicate (k/32) 0++ws)):=Nt.put q W.out (by rw[B8q];exact A1j d) N hL hT;have s:Fr (λi=>i=b\/i=g) w (K.setCell ⟨b,0,none⟩ (.slice (some ⟨f,0,none⟩) (((k:Int)/32).toNat+ws.length) l)):=(Hf.grown c (λi z=>by cases z)).setCell (.inl (.inl rfl)) _;rw[C7n]at r;clear q U L d c Hf Hlo Hnew Holds Hnews Hvl Hone F m D H W hL hT O S V I t A;generalize K.setCell ⟨b,0,none⟩ (.slice (some ⟨f,0,none⟩) (((k:Int)/32).toNat+ws.length) l)=W2 at r s ⊢;by_cases y:k % 32=0
  ·go_wp2
   go_end0;exact⟨rfl,f,by rw[y];simpa using r,s,by omega⟩
  ·have a3:0<k % 32:=by omega
   go_wp2_with fail
   rw[C4i k];refine(A6w b f _ (2^(k % 32)) 0 _ HS.out (B8t k) (Nat.two_pow_pos _) (by omega) r).mono ?_;rintro e w' ⟨rfl,g2,X,r2,r3⟩;go_wp2;go_end0;refine⟨rfl,g2,by rw[Nat.add_zero]at X;exact X,s.trans' r2 ?_,?_⟩
   ·rintro i (z|z)
    ·exact .inl (.inl z)
    ·exact .inr (by omega)
   ·have:=s.size;omega
theorem C2q (b g N:Nat) (k:Nat) (w:World) (C:k<=30000) (j:Nt w b g N) (d:k<32\/N=0) (l:Sm N):
 Calls Tryz.prog 114 #[.pointer (some ⟨b,0,none⟩),.int .i64 k] w λe w'=>e=.returned (.tuple #[])/\∃g',Nt w' b g' (2^(k % 32)*N)/\Fr (λi=>i=b\/i=g) w w'/\(g'=g\/w.heap.size<=g'):=by
 have t:Hid _:=l;clear l;have f:Hid _:=j;obtain⟨ws,⟨cap,T,A,x,v⟩,B,n,y⟩:=j;have p:=cell_of_one A
 have a:k<32\/(32<=k/\ws.length<=0):=by
  rcases d with d|d
  ·exact .inl d
  ·rcases Nat.lt_or_ge k 32 with h|h
   ·exact .inl h
   ·refine .inr ⟨h,?_⟩
    rw[E8t ws n (by omega)];simp
 clear d y n B x;rcases a with o|⟨o,s⟩
 all_goals
  by_cases c:k % 32=0
  ·go_enter Tryz.func114,Tryz.ntmps114
   go_wp2;go_end0;exact⟨rfl,g,by first|exact f.out|(rw[c,Nat.pow_zero,Nat.one_mul];exact f.out),Fr.refl _ _,.inl rfl⟩
  ·have u:0<k % 32:=by omega
   go_enter Tryz.func114,Tryz.ntmps114
   go_wp2_with fail
   rw[C4i k];refine(A6w b g _ (2^(k % 32)) 0 _ t.out (B8t k) (Nat.two_pow_pos _) (by omega) f.out).mono ?_;rintro e w' ⟨rfl,q,m,r,z⟩;go_wp2;go_end0;exact⟨rfl,q,by rw[Nat.add_zero]at m;exact m,r,z⟩
theorem B6v (b g N k:Nat) (w:World) (n:k<=30000) (l:Nt w b g N) (h:Sm (2^k*N)):
 Calls Tryz.prog 114 #[.pointer (some ⟨b,0,none⟩),.int .i64 k] w λe w'=>e=.returned (.tuple #[])/\∃d,Nt w' b d (2^k*N)/\Fr (λi=>i=b\/i=g) w w'/\(d=g\/w.heap.size<=d):=by
 have p:2^k=2^(k % 32)*4294967296^(k/32):=by rw[F6c,<-Nat.pow_add];congr 1;omega
 have c:N<=2^k*N:=Nat.le_mul_of_pos_left _ (Nat.two_pow_pos _);by_cases f:N=0
 ·subst f
  have:=C2q b g 0 k w n l (.inr rfl) (Sm.mono h (by omega));simpa using this
 ·by_cases a:k<32
  ·have:=C2q b g N k w n l (.inl a) (Sm.mono h c)
   rwa[Nat.mod_eq_of_lt a]at this
  ·obtain⟨ws,u,v,o,j⟩:=l
   have m:Sm (4294967296^(k/32)*val ws):=by
    refine Sm.mono h ?_;rw[p,j,Nat.mul_assoc];exact Nat.le_mul_of_pos_left _ (Nat.two_pow_pos _)
   have s:ws.length<=1000:=Sm.len (by rw[j];exact Sm.mono h c) o;refine(D0x b g ws k w s n (by omega) (by rintro rfl;exact f j.symm) u v o m).mono ?_;rintro e w' ⟨rfl,d,q,r,t⟩;refine⟨rfl,d,?_,r,.inr t⟩;rw[<-Nat.mul_assoc,<-p,j]at q;exact q
end Go.Proofs.YtmkkibaacclhnaaGreatDoor
