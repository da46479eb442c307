/-
  A step of the walk, the part named Wg. No theorem of the row.
-/
import Derived.Test.YtmkkibaacclhnaaGreatDoorWf
namespace Go.Proofs.YtmkkibaacclhnaaGreatDoor
open Go.RowKit
set_option maxRecDepth 100000
set_option maxHeartbeats 40000000
theorem cross_all {R:Nat→Nat→Prop} (tr:∀x y z,R x y→R y z→R x z) {A1 A2 B1 B2:List Nat} (hA:(A1++A2).Pairwise R) (hB:(B1++B2).Pairwise R)
 (h1:A1=[]∨B2=[]∨∃L x y G,A1=L++[x]∧B2=y::G∧R x y) (h2:A2=[]∨B1=[]∨∃L y x G,B1=L++[y]∧A2=x::G∧R y x):
 ∀u,u∈A1++B1→∀v,v∈A2++B2→R u v:=by
 intro u hu v hv;have hA':=List.pairwise_append.1 hA;have hB':=List.pairwise_append.1 hB;rcases List.mem_append.1 hu with hu|hu<;>rcases List.mem_append.1 hv with hv|hv
 ·exact hA'.2.2 u hu v hv
 ·rcases h1 with rfl|rfl|⟨L,x,y,G,rfl,rfl,h⟩
  ·cases hu
  ·cases hv
  ·have e1:u=x∨R u x:=by
    rcases List.mem_append.1 hu with hu|hu
    ·exact .inr ((List.pairwise_append.1 hA'.1).2.2 u hu x (by simp))
    ·exact .inl (by simpa using hu)
   have e2:v=y∨R y v:=by
    rcases List.mem_cons.1 hv with hv|hv
    ·exact .inl hv
    ·exact .inr ((List.pairwise_cons.1 hB'.2.1).1 v hv)
   rcases e1 with rfl|e1<;>rcases e2 with rfl|e2
   ·exact h
   ·exact tr _ _ _ h e2
   ·exact tr _ _ _ e1 h
   ·exact tr _ _ _ e1 (tr _ _ _ h e2)
 ·rcases h2 with rfl|rfl|⟨L,y,x,G,rfl,rfl,h⟩
  ·cases hv
  ·cases hu
  ·have e1:u=y∨R u y:=by
    rcases List.mem_append.1 hu with hu|hu
    ·exact .inr ((List.pairwise_append.1 hB'.1).2.2 u hu y (by simp))
    ·exact .inl (by simpa using hu)
   have e2:v=x∨R x v:=by
    rcases List.mem_cons.1 hv with hv|hv
    ·exact .inl hv
    ·exact .inr ((List.pairwise_cons.1 hA'.2.1).1 v hv)
   rcases e1 with rfl|e1<;>rcases e2 with rfl|e2
   ·exact h
   ·exact tr _ _ _ h e2
   ·exact tr _ _ _ e1 h
   ·exact tr _ _ _ e1 (tr _ _ _ h e2)
 ·exact hB'.2.2 u hu v hv
theorem last_is {A A1 A2:List Nat} {x t:Nat} (hA:A=A1++A2) (ht:A1.length=t+1) (hx:A[t]? =some x):∃L,A1=L++[x]:=by
 rcases snoc_or A1 with rfl|⟨L,z,rfl⟩
 ·simp at ht
 ·refine⟨L,?_⟩
  simp at ht;subst ht;rw[hA,List.append_assoc,List.getElem?_append_right (Nat.le_refl _),Nat.sub_self]at hx;simp at hx;rw[hx]
theorem first_is {A A1 A2:List Nat} {x t:Nat} (hA:A=A1++A2) (ht:A1.length=t) (hx:A[t]? =some x):∃G,A2=x::G:=by
 subst ht;rw[hA,List.getElem?_append_right (Nat.le_refl _),Nat.sub_self]at hx;cases A2 with
 |nil=>simp at hx
 |cons z G=>simp at hx;exact⟨G,by rw[hx]⟩
def Merges (w0:World) (blk n cap bx:Nat) (D:Nat→Prop) (cf:Nat→Nat→Int) (R:Nat→Nat→Prop) (f:Nat):Prop:=
 ∀(w:World) (a m b:Nat) (X A B Y:List Nat),b-a≤f→DR w0 w blk n cap (X++A++B++Y)→X.length=a→a+A.length=m→m+B.length=b→0<A.length→0<B.length→A.Pairwise R→B.Pairwise R→(∀x,x∈A→∀y,y∈B→Cf cf R x y)→(∀x,x∈A++B→D x)→
  Calls Tryz.prog 203 #[.slice (some ⟨blk,0,none⟩) n cap,.int .i64 (a:Int),.int .i64 (m:Int),.int .i64 (b:Int),.func (.func 129) #[] #[.pointer (some ⟨bx,0,none⟩)]] w fun e w'=>e=.returned (.tuple #[])∧∃Z,Z.Perm (A++B)∧Z.Pairwise R∧DR w0 w' blk n cap (X++Z++Y)
structure Cut (R:Nat→Nat→Prop) (A B A1 A2 B1 B2:List Nat) (s t:Nat):Prop where
 a:A=A1++A2
 b:B=B1++B2
 la:A1.length=s
 lb:B1.length=t
 cr:∀u,u∈A1++B1→∀v,v∈A2++B2→R u v
theorem Cut.whole {R:Nat→Nat→Prop} {A B A1 A2 B1 B2 Z1 Z2:List Nat} {s t:Nat} (h:Cut R A B A1 A2 B1 B2 s t) (h1:Z1.Perm (A1++B1)) (h2:Z2.Perm (A2++B2)) (p1:Z1.Pairwise R) (p2:Z2.Pairwise R):(Z1++Z2).Perm (A++B)∧(Z1++Z2).Pairwise R:=by
 refine⟨?_,List.pairwise_append.2 ⟨p1,p2,fun u hu v hv=>h.cr u (h1.mem_iff.1 hu) v (h2.mem_iff.1 hv)⟩⟩;rw[h.a,h.b];refine(h1.append h2).trans ?_;have e1:(A1++B1++(A2++B2))=A1++(B1++A2)++B2:=by simp
 have e2:(A1++A2++(B1++B2))=A1++(A2++B1)++B2:=by simp
 rw[e1,e2];exact((List.perm_append_comm).append_left A1).append_right B2
theorem merge_mid_hi (w0 w:World) (blk n cap a m b bx mid f:Nat) (D:Nat→Prop) (cf:Nat→Nat→Int) (R:Nat→Nat→Prop) (tr:∀x y z,R x y→R y z→R x z) (IH:Merges w0 blk n cap bx D cf R f) (hf:b-a≤f+1) (X A B Y:List Nat) (h:DR w0 w blk n cap (X++A++B++Y)) (hX:X.length=a) (hA2:2≤A.length) (hB2:2≤B.length) (hm:a+A.length=m) (hb:m+B.length=b)
 (hmid:(a+b)/2=mid) (hmm:mid<m) (hA:A.Pairwise R) (hB:B.Pairwise R) (hCf:∀x,x∈A→∀y,y∈B→Cf cf R x y) (hD:∀x,x∈A++B→D x)
 (hC:CmpAt w0 blk #[.pointer (some ⟨bx,0,none⟩)] D cf) (hn:n≤10000000):
 Calls Tryz.prog 203 #[.slice (some ⟨blk,0,none⟩) n cap,.int .i64 (a:Int),.int .i64 (m:Int),.int .i64 (b:Int),.func (.func 129) #[] #[.pointer (some ⟨bx,0,none⟩)]] w fun e w'=>e=.returned (.tuple #[])∧∃Z,Z.Perm (A++B)∧Z.Pairwise R∧DR w0 w' blk n cap (X++Z++Y):=by
 have hlen:=h.len;simp only[List.length_append]at hlen;obtain⟨lo,hlo⟩:∃lo,mid+m-b=lo:=⟨_,rfl⟩;have hbN:b≤n:=by omega
 have hab:a<mid∧mid<b:=by omega
 have hma:((m:Int)-(a:Int)==1)=false:=beq_eq_false_iff_ne.2 (by omega);have hbm:((b:Int)-(m:Int)==1)=false:=beq_eq_false_iff_ne.2 (by omega);have hmidz:((a:Int)+(b:Int))/2=(mid:Int):=by omega
 have hmz:(mid:Int)<(m:Int):=by omega
 have hlz:(mid:Int)+(m:Int)-(b:Int)=(lo:Int):=by omega
 have hlh:lo≤mid:=by omega
 have HK:=hid (show∀c,lo≤c→c<mid→a≤c∧c-a<A.length∧c<mid∧mid-1-c<B.length from fun c h1 h2=>by omega);have HL:=hid (show lo≤mid∧a≤lo∧mid≤mid∧mid≤m∧mid-lo≤B.length∧(lo=a∨mid-lo=B.length)∧(mid=m∨mid=mid)from by omega);have H:=hid h;have HX:=hid (And.intro hX (And.intro hm hb));have HA:=hid hA;have HB:=hid hB;have HDm:=hid hD;have HCF:=hid hCf;have HC:=hid hC;have HTR:=hid tr;have HIH:=hid IH;have HFF:=hid hf;have hmn:m≤n:=by omega
 have mixed:=Tryz.mixedR;clear h hX hb hm hA hB hD hC hCf hlen tr hA2 hB2 IH hf hmm hmid hlo;go_enter Tryz.func203,Tryz.ntmps203;go_wp2
 go_loopw [20,21] (fun s t wr=>∃i j:Nat,lo≤i∧i≤j∧j≤mid∧s=.int .i64 (i:Int)∧t=.int .i64 (j:Int)∧Hid ((i=lo∨∃x y,A[i-1-a]? =some x∧B[mid-i]? =some y∧R x y)∧(j=mid∨∃x y,A[j-a]? =some x∧B[mid-1-j]? =some y∧R y x))∧Hid (DR w0 wr blk n cap (X++A++B++Y))) (fun s t _=>(intOf t).toNat-(intOf s).toNat)
 case atStart=>exact⟨lo,mid,by omega,by omega,by omega,rfl,rfl,hid ⟨.inl rfl,.inl rfl⟩,H⟩
 case round=>
  obtain⟨i,j,hmi,hij,hjb,rfl,rfl,hS,hD⟩:=hrel;by_cases hlt:i<j
  ·obtain⟨c,hce⟩:∃c,(i+j)/2=c:=⟨_,rfl⟩
   have hh1:i≤c:=by omega
   have hh2:c<j:=by omega
   have hltz:(i:Int)<(j:Int):=by omega
   have hhz:((i:Int)+(j:Int))/2=(c:Int):=by omega
   obtain⟨k1,k2,k3,k4⟩:=HK.out c (by omega) (by omega);obtain⟨x,hx⟩:∃x,A[c-a]? =some x:=⟨A[c-a],List.getElem?_eq_getElem _⟩;obtain⟨y,hy⟩:∃y,B[mid-1-c]? =some y:=⟨B[mid-1-c],List.getElem?_eq_getElem _⟩;have hxm:x∈A:=List.mem_of_getElem? hx;have hym:y∈B:=List.mem_of_getElem? hy;obtain⟨q,hq⟩:∃q,m+(mid-1-c)=q:=⟨_,rfl⟩
   have c1:=hD.out.cell c x (by
    have h1:=HX.out
    rw[List.append_assoc,List.append_assoc,List.getElem?_append_right (by omega),List.getElem?_append_left (by omega),←hx,h1.1])
   have c2:=hD.out.cell q y (by
    have h1:=HX.out;rw[List.getElem?_append_left (by simp only[List.length_append];omega),List.getElem?_append_right (by simp only[List.length_append];omega),←hy];congr 1;simp only[List.length_append]
    omega)
   have hqn:q<n:=by have h1:=HX.out;omega
   have hcn:c<n:=by omega
   have hz1:(c:Int)<(n:Int):=by omega
   have hz2:(q:Int)<(n:Int):=by omega
   have hqz:(mid:Int)+(m:Int)-1-(c:Int)=(q:Int):=by omega
   have HCM:=hid (fun k=>HC.out y x (HDm.out y (by simp[hym])) (HDm.out x (by simp[hxm])) (wr.drewN k) (hD.out.fr.drewN k));have HCC:=hid (HCF.out x hxm y hym);have HXY:=hid (And.intro hx hy);have HKK:=hid (And.intro k1 (And.intro k3 hq));clear hx hy hxm hym hce k1 k2 k3 k4 hq;by_cases hc:cf y x<0
   ·have hcd:decide (cf y x<0)=true:=decide_eq_true hc
    have HR:=hid (HCC.out.1 hc)
    go_wp2_with fail
    go_quiet ((go_at_call 129;exact Calls.quiet_of (HCM.out _)));go_wp2;go_roundw
    case rel=>exact⟨i,c,hmi,by omega,by omega,rfl,by go_num,hid ⟨hS.out.1,.inr ⟨x,y,HXY.out.1,HXY.out.2,HR.out⟩⟩,hid (hD.out.drewN _)⟩
    case measure=>simp[intOf];omega
   ·have hcd:decide (cf y x<0)=false:=decide_eq_false hc
    have HR:=hid (HCC.out.2 hc)
    go_wp2_with fail
    go_quiet ((go_at_call 129;exact Calls.quiet_of (HCM.out _)));go_wp2;go_roundw
    case rel=>
     refine⟨c+1,j,by omega,by omega,hjb,by go_num,rfl,hid ⟨.inr ⟨x,y,?_,?_,HR.out⟩,hS.out.2⟩,hid (hD.out.drewN _)⟩
     ·rw[show c+1-1-a=c-a by omega];exact HXY.out.1
     ·rw[show mid-(c+1)=mid-1-c by omega];exact HXY.out.2
    case measure=>simp[intOf];omega
  ·obtain rfl:i=j:=by omega
   have hnl:¬((i:Int)<(i:Int)):=by omega
   have hl:=HL.out;obtain⟨A1,A2,hA12,hA1⟩:=cut_at A (i-a) (by have:=HX.out;omega);obtain⟨B1,B2,hB12,hB1⟩:=cut_at B (mid-i) (by have:=HX.out;omega)
   have hcut:Cut R A B A1 A2 B1 B2 (i-a) (mid-i):=by
    refine⟨hA12,hB12,hA1,hB1,cross_all HTR.out (by rw[←hA12];exact HA.out) (by rw[←hB12];exact HB.out) ?_ ?_⟩
    ·by_cases h0:i=a
     ·exact .inl (List.eq_nil_of_length_eq_zero (by omega))
     ·rcases hS.out.1 with h1|⟨x,y,h1,h2,h3⟩
      ·refine .inr (.inl (List.eq_nil_of_length_eq_zero ?_))
       have h4:=congrArg List.length hB12;rw[List.length_append]at h4;omega
      ·obtain⟨L,hL⟩:=last_is hA12 (t:=i-1-a) (by omega) h1
       obtain⟨G,hG⟩:=first_is hB12 hB1 h2;exact .inr (.inr ⟨L,x,y,G,hL,hG,h3⟩)
    ·rcases hS.out.2 with h1|⟨x,y,h1,h2,h3⟩
     ·rcases hl.2.2.2.2.2.2 with h5|h5
      ·refine .inl (List.eq_nil_of_length_eq_zero ?_)
       have h4:=congrArg List.length hA12;have h6:=HX.out;rw[List.length_append]at h4;omega
      ·exact .inr (.inl (List.eq_nil_of_length_eq_zero (by omega)))
     ·by_cases h0:i=mid
      ·exact .inr (.inl (List.eq_nil_of_length_eq_zero (by omega)))
      ·obtain⟨L,hL⟩:=last_is hB12 (t:=mid-1-i) (by omega) h2
       obtain⟨G,hG⟩:=first_is hA12 hA1 h1;exact .inr (.inr ⟨L,y,x,G,hL,hG,h3⟩)
   have HCUT:=hid hcut;obtain⟨e,he⟩:∃e,mid+m-i=e:=⟨_,rfl⟩;have hez:(mid:Int)+(m:Int)-(i:Int)=(e:Int):=by omega
   have HE:=hid (show X.length+A1.length=i∧i+A2.length=m∧m+B1.length=e∧e+B2.length=b∧i+B1.length=mid∧mid+A2.length=e from by
    have h1:=HX.out;have h4:=congrArg List.length hA12;have h5:=congrArg List.length hB12;rw[List.length_append]at h4 h5
    omega)
   have hd0:DR w0 wr blk n cap ((X++A1)++A2++B1++(B2++Y)):=by have:=hD.out;rw[hA12,hB12]at this;simpa using this
   have HD0:=hid hd0
   have HPA:=hid (show A1.Pairwise R∧A2.Pairwise R∧B1.Pairwise R∧B2.Pairwise R from by
    have h1:=HA.out;have h2:=HB.out;rw[hA12,List.pairwise_append]at h1;rw[hB12,List.pairwise_append]at h2
    exact⟨h1.1,h1.2.1,h2.1,h2.2.1⟩)
   have HCA:=hid (show(∀x,x∈A1→∀y,y∈B1→Cf cf R x y)∧(∀x,x∈A2→∀y,y∈B2→Cf cf R x y)∧(∀x,x∈A1++B1→D x)∧(∀x,x∈A2++B2→D x)from by
    have h1:=HCF.out;have h2:=HDm.out;rw[hA12,hB12]at h1;rw[hA12,hB12]at h2;refine⟨fun x hx y hy=>h1 x (by simp[hx]) y (by simp[hy]),fun x hx y hy=>h1 x (by simp[hx]) y (by simp[hy]),fun x hx=>h2 x ?_,fun x hx=>h2 x ?_⟩
    ·rcases List.mem_append.1 hx with h|h<;>simp[h]
    ·rcases List.mem_append.1 hx with h|h<;>simp[h])
   have hie:i≤m∧m≤e∧a≤i∧i≤mid∧mid≤e∧e≤b∧e+i=mid+m:=by have:=HE.out;have:=HX.out;omega
   clear hA12 hA1 hB12 hB1 hcut hd0 hD hS hl he HK HL HC HCF HDm H HA HB;have HROT:=hid (fun (h1:i<m) (h2:m<e)=>rotate_any w0 wr blk n cap m e (X++A1) A2 B1 (B2++Y) (.func (.func 129) #[] #[.pointer (some ⟨bx,0,none⟩)]) HD0.out (by have:=HE.out;omega) (by have:=HE.out;omega) (by have:=HE.out;rw[List.length_append];omega) (by have:=HE.out;omega) hn)
   have HNR:=hid (fun (h:¬(i<m∧m<e))=>(show DR w0 wr blk n cap (X++A1++B1++(A2++B2++Y))from by
    have h1:=HE.out;have h2:=HD0.out;by_cases h3:i<m
    ·have h4:B1=[]:=List.eq_nil_of_length_eq_zero (by omega)
     subst h4;simpa using h2
    ·have h4:A2=[]:=List.eq_nil_of_length_eq_zero (by omega)
     subst h4
     simpa using h2))
   have HM1:=hid (fun (wx:World) (hd:DR w0 wx blk n cap (X++A1++B1++(A2++B2++Y))) (h1:a<i) (h2:i<mid)=>HIH.out wx a i mid X A1 B1 (A2++B2++Y) (by have:=HFF.out;omega) hd HX.out.1 (by have:=HE.out;have:=HX.out;omega) (by have:=HE.out;omega) (by have:=HE.out;have:=HX.out;omega) (by have:=HE.out;omega) HPA.out.1 HPA.out.2.2.1 HCA.out.1 HCA.out.2.2.1)
   have HN1:=hid (fun (h:¬(a<i∧i<mid))=>(show(A1++B1).Pairwise R from by
    have h1:=HE.out;have h2:=HX.out;by_cases h3:a<i
    ·have h4:B1=[]:=List.eq_nil_of_length_eq_zero (by omega)
     rw[h4,List.append_nil];exact HPA.out.1
    ·have h4:A1=[]:=List.eq_nil_of_length_eq_zero (by omega)
     rw[h4]
     exact HPA.out.2.2.1))
   have HM2:=hid (fun (wx:World) (Z1:List Nat) (hz:Z1.Perm (A1++B1)) (hd:DR w0 wx blk n cap (X++Z1++(A2++B2++Y))) (h1:mid<e) (h2:e<b)=>HIH.out wx mid e b (X++Z1) A2 B2 Y (by have:=HFF.out;omega) (by simpa using hd) (by have:=HE.out;have:=HX.out;have:=hz.length_eq;rw[List.length_append]at*;omega) (by have:=HE.out;omega) (by have:=HE.out;omega) (by have:=HE.out;omega) (by have:=HE.out;omega) HPA.out.2.1 HPA.out.2.2.2 HCA.out.2.1 HCA.out.2.2.2)
   have HN2:=hid (fun (h:¬(mid<e∧e<b))=>(show(A2++B2).Pairwise R from by
    have h1:=HE.out;by_cases h3:mid<e
    ·have h4:B2=[]:=List.eq_nil_of_length_eq_zero (by omega)
     rw[h4,List.append_nil];exact HPA.out.2.1
    ·have h4:A2=[]:=List.eq_nil_of_length_eq_zero (by omega)
     rw[h4]
     exact HPA.out.2.2.2))
   clear HIH HFF HD0 HPA HCA;rcases(show((i:Int)<(m:Int)∧(m:Int)<(e:Int))∨((i:Int)<(m:Int)∧¬(m:Int)<(e:Int))∨¬(i:Int)<(m:Int) by omega)with⟨hra,hrb⟩|⟨hra,hrb⟩|hra<;>
   rcases(show((a:Int)<(i:Int)∧(i:Int)<(mid:Int))∨((a:Int)<(i:Int)∧¬(i:Int)<(mid:Int))∨¬(a:Int)<(i:Int) by omega)with⟨h1a,h1b⟩|⟨h1a,h1b⟩|h1a<;>
   rcases(show((mid:Int)<(e:Int)∧(e:Int)<(b:Int))∨((mid:Int)<(e:Int)∧¬(e:Int)<(b:Int))∨¬(mid:Int)<(e:Int) by omega)with⟨h2a,h2b⟩|⟨h2a,h2b⟩|h2a<;>
   first
   |(exfalso;omega)
   |(go_wp2_with fail
     first
     |(have hr:i<m∧m<e:=by omega
       have hro:=HROT.out hr.1 hr.2;rw[List.length_append,HE.out.1]at hro;refine Calls.mono hro ?_;rintro x w2 ⟨rfl,hd⟩;have HD1:=hid (show DR w0 w2 blk n cap (X++A1++B1++(A2++B2++Y))from by simpa using hd);clear hd hro hr
       go_wp2_with fail)
     |have HD1:=hid (HNR.out (by omega))
     first
     |(have h1:a<i∧i<mid:=by omega
       refine Calls.mono (HM1.out _ HD1.out h1.1 h1.2) ?_;rintro x w3 ⟨rfl,Z1,p1,s1,hd⟩;have HZ1:=hid (And.intro p1 (And.intro s1 hd));clear p1 s1 hd h1
       go_wp2_with fail)
     |(obtain⟨Z1,hZ1⟩:∃Z1,A1++B1=Z1:=⟨_,rfl⟩
       have HZ1:=hid (show Z1.Perm (A1++B1)∧Z1.Pairwise R∧DR w0 _ blk n cap (X++Z1++(A2++B2++Y))from⟨by rw[hZ1],by rw[←hZ1];exact HN1.out (by omega),by rw[←hZ1];simpa using HD1.out⟩)
       clear hZ1)
     first
     |(have h2:mid<e∧e<b:=by omega
       refine Calls.mono (HM2.out _ Z1 HZ1.out.1 HZ1.out.2.2 h2.1 h2.2) ?_;rintro x w4 ⟨rfl,Z2,p2,s2,hd⟩;have HZ2:=hid (And.intro p2 (And.intro s2 hd));clear p2 s2 hd h2
       go_wp2_with fail)
     |(obtain⟨Z2,hZ2⟩:∃Z2,A2++B2=Z2:=⟨_,rfl⟩
       have HZ2:=hid (show Z2.Perm (A2++B2)∧Z2.Pairwise R∧DR w0 _ blk n cap (X++Z1++Z2++Y)from⟨by rw[hZ2],by rw[←hZ2];exact HN2.out (by omega),by have:=HZ1.out.2.2;rw[←hZ2];simpa using this⟩)
       clear hZ2)
     go_end0;obtain⟨g1,g2⟩:=HCUT.out.whole HZ1.out.1 HZ2.out.1 HZ1.out.2.1 HZ2.out.2.1
     exact⟨rfl,Z1++Z2,g1,g2,by simpa using HZ2.out.2.2⟩)
theorem merge_mid_lo (w0 w:World) (blk n cap a m b bx mid f:Nat) (D:Nat→Prop) (cf:Nat→Nat→Int) (R:Nat→Nat→Prop) (tr:∀x y z,R x y→R y z→R x z) (IH:Merges w0 blk n cap bx D cf R f) (hf:b-a≤f+1) (X A B Y:List Nat) (h:DR w0 w blk n cap (X++A++B++Y)) (hX:X.length=a) (hA2:2≤A.length) (hB2:2≤B.length) (hm:a+A.length=m) (hb:m+B.length=b)
 (hmid:(a+b)/2=mid) (hmm:¬mid<m) (hA:A.Pairwise R) (hB:B.Pairwise R) (hCf:∀x,x∈A→∀y,y∈B→Cf cf R x y) (hD:∀x,x∈A++B→D x)
 (hC:CmpAt w0 blk #[.pointer (some ⟨bx,0,none⟩)] D cf) (hn:n≤10000000):
 Calls Tryz.prog 203 #[.slice (some ⟨blk,0,none⟩) n cap,.int .i64 (a:Int),.int .i64 (m:Int),.int .i64 (b:Int),.func (.func 129) #[] #[.pointer (some ⟨bx,0,none⟩)]] w fun e w'=>e=.returned (.tuple #[])∧∃Z,Z.Perm (A++B)∧Z.Pairwise R∧DR w0 w' blk n cap (X++Z++Y):=by
 have hlen:=h.len;simp only[List.length_append]at hlen;have hbN:b≤n:=by omega
 have hab:a<mid∧mid<b:=by omega
 have hma:((m:Int)-(a:Int)==1)=false:=beq_eq_false_iff_ne.2 (by omega);have hbm:((b:Int)-(m:Int)==1)=false:=beq_eq_false_iff_ne.2 (by omega);have hmidz:((a:Int)+(b:Int))/2=(mid:Int):=by omega
 have hmz:¬((mid:Int)<(m:Int)):=by omega
 have hlh:a≤m:=by omega
 have HK:=hid (show∀c,a≤c→c<m→a≤c∧c-a<A.length∧c<mid∧mid-1-c<B.length from fun c h1 h2=>by omega);have HL:=hid (show a≤mid∧a≤a∧m≤mid∧m≤m∧mid-a≤B.length∧(a=a∨mid-a=B.length)∧(m=m∨m=mid)from by omega);have H:=hid h;have HX:=hid (And.intro hX (And.intro hm hb));have HA:=hid hA;have HB:=hid hB;have HDm:=hid hD;have HCF:=hid hCf;have HC:=hid hC;have HTR:=hid tr;have HIH:=hid IH;have HFF:=hid hf;have hmn:m≤n:=by omega
 have mixed:=Tryz.mixedR;clear h hX hb hm hA hB hD hC hCf hlen tr hA2 hB2 IH hf hmm hmid;go_enter Tryz.func203,Tryz.ntmps203;go_wp2
 go_loopw [20,21] (fun s t wr=>∃i j:Nat,a≤i∧i≤j∧j≤m∧s=.int .i64 (i:Int)∧t=.int .i64 (j:Int)∧Hid ((i=a∨∃x y,A[i-1-a]? =some x∧B[mid-i]? =some y∧R x y)∧(j=m∨∃x y,A[j-a]? =some x∧B[mid-1-j]? =some y∧R y x))∧Hid (DR w0 wr blk n cap (X++A++B++Y))) (fun s t _=>(intOf t).toNat-(intOf s).toNat)
 case atStart=>exact⟨a,m,by omega,by omega,by omega,rfl,rfl,hid ⟨.inl rfl,.inl rfl⟩,H⟩
 case round=>
  obtain⟨i,j,hmi,hij,hjb,rfl,rfl,hS,hD⟩:=hrel;by_cases hlt:i<j
  ·obtain⟨c,hce⟩:∃c,(i+j)/2=c:=⟨_,rfl⟩
   have hh1:i≤c:=by omega
   have hh2:c<j:=by omega
   have hltz:(i:Int)<(j:Int):=by omega
   have hhz:((i:Int)+(j:Int))/2=(c:Int):=by omega
   obtain⟨k1,k2,k3,k4⟩:=HK.out c (by omega) (by omega);obtain⟨x,hx⟩:∃x,A[c-a]? =some x:=⟨A[c-a],List.getElem?_eq_getElem _⟩;obtain⟨y,hy⟩:∃y,B[mid-1-c]? =some y:=⟨B[mid-1-c],List.getElem?_eq_getElem _⟩;have hxm:x∈A:=List.mem_of_getElem? hx;have hym:y∈B:=List.mem_of_getElem? hy;obtain⟨q,hq⟩:∃q,m+(mid-1-c)=q:=⟨_,rfl⟩
   have c1:=hD.out.cell c x (by
    have h1:=HX.out
    rw[List.append_assoc,List.append_assoc,List.getElem?_append_right (by omega),List.getElem?_append_left (by omega),←hx,h1.1])
   have c2:=hD.out.cell q y (by
    have h1:=HX.out;rw[List.getElem?_append_left (by simp only[List.length_append];omega),List.getElem?_append_right (by simp only[List.length_append];omega),←hy];congr 1;simp only[List.length_append]
    omega)
   have hqn:q<n:=by have h1:=HX.out;omega
   have hcn:c<n:=by omega
   have hz1:(c:Int)<(n:Int):=by omega
   have hz2:(q:Int)<(n:Int):=by omega
   have hqz:(mid:Int)+(m:Int)-1-(c:Int)=(q:Int):=by omega
   have HCM:=hid (fun k=>HC.out y x (HDm.out y (by simp[hym])) (HDm.out x (by simp[hxm])) (wr.drewN k) (hD.out.fr.drewN k));have HCC:=hid (HCF.out x hxm y hym);have HXY:=hid (And.intro hx hy);have HKK:=hid (And.intro k1 (And.intro k3 hq));clear hx hy hxm hym hce k1 k2 k3 k4 hq;by_cases hc:cf y x<0
   ·have hcd:decide (cf y x<0)=true:=decide_eq_true hc
    have HR:=hid (HCC.out.1 hc)
    go_wp2_with fail
    go_quiet ((go_at_call 129;exact Calls.quiet_of (HCM.out _)));go_wp2;go_roundw
    case rel=>exact⟨i,c,hmi,by omega,by omega,rfl,by go_num,hid ⟨hS.out.1,.inr ⟨x,y,HXY.out.1,HXY.out.2,HR.out⟩⟩,hid (hD.out.drewN _)⟩
    case measure=>simp[intOf];omega
   ·have hcd:decide (cf y x<0)=false:=decide_eq_false hc
    have HR:=hid (HCC.out.2 hc)
    go_wp2_with fail
    go_quiet ((go_at_call 129;exact Calls.quiet_of (HCM.out _)));go_wp2;go_roundw
    case rel=>
     refine⟨c+1,j,by omega,by omega,hjb,by go_num,rfl,hid ⟨.inr ⟨x,y,?_,?_,HR.out⟩,hS.out.2⟩,hid (hD.out.drewN _)⟩
     ·rw[show c+1-1-a=c-a by omega];exact HXY.out.1
     ·rw[show mid-(c+1)=mid-1-c by omega];exact HXY.out.2
    case measure=>simp[intOf];omega
  ·obtain rfl:i=j:=by omega
   have hnl:¬((i:Int)<(i:Int)):=by omega
   have hl:=HL.out;obtain⟨A1,A2,hA12,hA1⟩:=cut_at A (i-a) (by have:=HX.out;omega);obtain⟨B1,B2,hB12,hB1⟩:=cut_at B (mid-i) (by have:=HX.out;omega)
   have hcut:Cut R A B A1 A2 B1 B2 (i-a) (mid-i):=by
    refine⟨hA12,hB12,hA1,hB1,cross_all HTR.out (by rw[←hA12];exact HA.out) (by rw[←hB12];exact HB.out) ?_ ?_⟩
    ·by_cases h0:i=a
     ·exact .inl (List.eq_nil_of_length_eq_zero (by omega))
     ·rcases hS.out.1 with h1|⟨x,y,h1,h2,h3⟩
      ·refine .inr (.inl (List.eq_nil_of_length_eq_zero ?_))
       have h4:=congrArg List.length hB12;rw[List.length_append]at h4;omega
      ·obtain⟨L,hL⟩:=last_is hA12 (t:=i-1-a) (by omega) h1
       obtain⟨G,hG⟩:=first_is hB12 hB1 h2;exact .inr (.inr ⟨L,x,y,G,hL,hG,h3⟩)
    ·rcases hS.out.2 with h1|⟨x,y,h1,h2,h3⟩
     ·rcases hl.2.2.2.2.2.2 with h5|h5
      ·refine .inl (List.eq_nil_of_length_eq_zero ?_)
       have h4:=congrArg List.length hA12;have h6:=HX.out;rw[List.length_append]at h4;omega
      ·exact .inr (.inl (List.eq_nil_of_length_eq_zero (by omega)))
     ·by_cases h0:i=mid
      ·exact .inr (.inl (List.eq_nil_of_length_eq_zero (by omega)))
      ·obtain⟨L,hL⟩:=last_is hB12 (t:=mid-1-i) (by omega) h2
       obtain⟨G,hG⟩:=first_is hA12 hA1 h1;exact .inr (.inr ⟨L,y,x,G,hL,hG,h3⟩)
   have HCUT:=hid hcut;obtain⟨e,he⟩:∃e,mid+m-i=e:=⟨_,rfl⟩;have hez:(mid:Int)+(m:Int)-(i:Int)=(e:Int):=by omega
   have HE:=hid (show X.length+A1.length=i∧i+A2.length=m∧m+B1.length=e∧e+B2.length=b∧i+B1.length=mid∧mid+A2.length=e from by
    have h1:=HX.out;have h4:=congrArg List.length hA12;have h5:=congrArg List.length hB12;rw[List.length_append]at h4 h5
    omega)
   have hd0:DR w0 wr blk n cap ((X++A1)++A2++B1++(B2++Y)):=by have:=hD.out;rw[hA12,hB12]at this;simpa using this
   have HD0:=hid hd0
   have HPA:=hid (show A1.Pairwise R∧A2.Pairwise R∧B1.Pairwise R∧B2.Pairwise R from by
    have h1:=HA.out;have h2:=HB.out;rw[hA12,List.pairwise_append]at h1;rw[hB12,List.pairwise_append]at h2
    exact⟨h1.1,h1.2.1,h2.1,h2.2.1⟩)
   have HCA:=hid (show(∀x,x∈A1→∀y,y∈B1→Cf cf R x y)∧(∀x,x∈A2→∀y,y∈B2→Cf cf R x y)∧(∀x,x∈A1++B1→D x)∧(∀x,x∈A2++B2→D x)from by
    have h1:=HCF.out;have h2:=HDm.out;rw[hA12,hB12]at h1;rw[hA12,hB12]at h2;refine⟨fun x hx y hy=>h1 x (by simp[hx]) y (by simp[hy]),fun x hx y hy=>h1 x (by simp[hx]) y (by simp[hy]),fun x hx=>h2 x ?_,fun x hx=>h2 x ?_⟩
    ·rcases List.mem_append.1 hx with h|h<;>simp[h]
    ·rcases List.mem_append.1 hx with h|h<;>simp[h])
   have hie:i≤m∧m≤e∧a≤i∧i≤mid∧mid≤e∧e≤b∧e+i=mid+m:=by have:=HE.out;have:=HX.out;omega
   clear hA12 hA1 hB12 hB1 hcut hd0 hD hS hl he HK HL HC HCF HDm H HA HB;have HROT:=hid (fun (h1:i<m) (h2:m<e)=>rotate_any w0 wr blk n cap m e (X++A1) A2 B1 (B2++Y) (.func (.func 129) #[] #[.pointer (some ⟨bx,0,none⟩)]) HD0.out (by have:=HE.out;omega) (by have:=HE.out;omega) (by have:=HE.out;rw[List.length_append];omega) (by have:=HE.out;omega) hn)
   have HNR:=hid (fun (h:¬(i<m∧m<e))=>(show DR w0 wr blk n cap (X++A1++B1++(A2++B2++Y))from by
    have h1:=HE.out;have h2:=HD0.out;by_cases h3:i<m
    ·have h4:B1=[]:=List.eq_nil_of_length_eq_zero (by omega)
     subst h4;simpa using h2
    ·have h4:A2=[]:=List.eq_nil_of_length_eq_zero (by omega)
     subst h4
     simpa using h2))
   have HM1:=hid (fun (wx:World) (hd:DR w0 wx blk n cap (X++A1++B1++(A2++B2++Y))) (h1:a<i) (h2:i<mid)=>HIH.out wx a i mid X A1 B1 (A2++B2++Y) (by have:=HFF.out;omega) hd HX.out.1 (by have:=HE.out;have:=HX.out;omega) (by have:=HE.out;omega) (by have:=HE.out;have:=HX.out;omega) (by have:=HE.out;omega) HPA.out.1 HPA.out.2.2.1 HCA.out.1 HCA.out.2.2.1)
   have HN1:=hid (fun (h:¬(a<i∧i<mid))=>(show(A1++B1).Pairwise R from by
    have h1:=HE.out;have h2:=HX.out;by_cases h3:a<i
    ·have h4:B1=[]:=List.eq_nil_of_length_eq_zero (by omega)
     rw[h4,List.append_nil];exact HPA.out.1
    ·have h4:A1=[]:=List.eq_nil_of_length_eq_zero (by omega)
     rw[h4]
     exact HPA.out.2.2.1))
   have HM2:=hid (fun (wx:World) (Z1:List Nat) (hz:Z1.Perm (A1++B1)) (hd:DR w0 wx blk n cap (X++Z1++(A2++B2++Y))) (h1:mid<e) (h2:e<b)=>HIH.out wx mid e b (X++Z1) A2 B2 Y (by have:=HFF.out;omega) (by simpa using hd) (by have:=HE.out;have:=HX.out;have:=hz.length_eq;rw[List.length_append]at*;omega) (by have:=HE.out;omega) (by have:=HE.out;omega) (by have:=HE.out;omega) (by have:=HE.out;omega) HPA.out.2.1 HPA.out.2.2.2 HCA.out.2.1 HCA.out.2.2.2)
   have HN2:=hid (fun (h:¬(mid<e∧e<b))=>(show(A2++B2).Pairwise R from by
    have h1:=HE.out;by_cases h3:mid<e
    ·have h4:B2=[]:=List.eq_nil_of_length_eq_zero (by omega)
     rw[h4,List.append_nil];exact HPA.out.2.1
    ·have h4:A2=[]:=List.eq_nil_of_length_eq_zero (by omega)
     rw[h4]
     exact HPA.out.2.2.2))
   clear HIH HFF HD0 HPA HCA;rcases(show((i:Int)<(m:Int)∧(m:Int)<(e:Int))∨((i:Int)<(m:Int)∧¬(m:Int)<(e:Int))∨¬(i:Int)<(m:Int) by omega)with⟨hra,hrb⟩|⟨hra,hrb⟩|hra<;>
   rcases(show((a:Int)<(i:Int)∧(i:Int)<(mid:Int))∨((a:Int)<(i:Int)∧¬(i:Int)<(mid:Int))∨¬(a:Int)<(i:Int) by omega)with⟨h1a,h1b⟩|⟨h1a,h1b⟩|h1a<;>
   rcases(show((mid:Int)<(e:Int)∧(e:Int)<(b:Int))∨((mid:Int)<(e:Int)∧¬(e:Int)<(b:Int))∨¬(mid:Int)<(e:Int) by omega)with⟨h2a,h2b⟩|⟨h2a,h2b⟩|h2a<;>
   first
   |(exfalso;omega)
   |(go_wp2_with fail
     first
     |(have hr:i<m∧m<e:=by omega
       have hro:=HROT.out hr.1 hr.2;rw[List.length_append,HE.out.1]at hro;refine Calls.mono hro ?_;rintro x w2 ⟨rfl,hd⟩;have HD1:=hid (show DR w0 w2 blk n cap (X++A1++B1++(A2++B2++Y))from by simpa using hd);clear hd hro hr
       go_wp2_with fail)
     |have HD1:=hid (HNR.out (by omega))
     first
     |(have h1:a<i∧i<mid:=by omega
       refine Calls.mono (HM1.out _ HD1.out h1.1 h1.2) ?_;rintro x w3 ⟨rfl,Z1,p1,s1,hd⟩;have HZ1:=hid (And.intro p1 (And.intro s1 hd));clear p1 s1 hd h1
       go_wp2_with fail)
     |(obtain⟨Z1,hZ1⟩:∃Z1,A1++B1=Z1:=⟨_,rfl⟩
       have HZ1:=hid (show Z1.Perm (A1++B1)∧Z1.Pairwise R∧DR w0 _ blk n cap (X++Z1++(A2++B2++Y))from⟨by rw[hZ1],by rw[←hZ1];exact HN1.out (by omega),by rw[←hZ1];simpa using HD1.out⟩)
       clear hZ1)
     first
     |(have h2:mid<e∧e<b:=by omega
       refine Calls.mono (HM2.out _ Z1 HZ1.out.1 HZ1.out.2.2 h2.1 h2.2) ?_;rintro x w4 ⟨rfl,Z2,p2,s2,hd⟩;have HZ2:=hid (And.intro p2 (And.intro s2 hd));clear p2 s2 hd h2
       go_wp2_with fail)
     |(obtain⟨Z2,hZ2⟩:∃Z2,A2++B2=Z2:=⟨_,rfl⟩
       have HZ2:=hid (show Z2.Perm (A2++B2)∧Z2.Pairwise R∧DR w0 _ blk n cap (X++Z1++Z2++Y)from⟨by rw[hZ2],by rw[←hZ2];exact HN2.out (by omega),by have:=HZ1.out.2.2;rw[←hZ2];simpa using this⟩)
       clear hZ2)
     go_end0;obtain⟨g1,g2⟩:=HCUT.out.whole HZ1.out.1 HZ2.out.1 HZ1.out.2.1 HZ2.out.2.1
     exact⟨rfl,Z1++Z2,g1,g2,by simpa using HZ2.out.2.2⟩)
end Go.Proofs.YtmkkibaacclhnaaGreatDoor
