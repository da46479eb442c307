/-
  A step of the walk, the part named Wf. No theorem of the row.
-/
import Derived.Test.YtmkkibaacclhnaaGreatDoorWd
namespace Go.Proofs.YtmkkibaacclhnaaGreatDoor
open Go.RowKit
set_option maxRecDepth 100000
set_option maxHeartbeats 16000000
theorem split_at {R:Nat→Nat→Prop} (tr:∀x y z,R x y→R y z→R x z) {B:List Nat} {x t:Nat} (hs:B.Pairwise R) (ht:t≤B.length) (h1:t=0∨∃y,B[t-1]? =some y∧R y x) (h2:t=B.length∨∃y,B[t]? =some y∧R x y):
 ∃B1 B2,B=B1++B2∧B1.length=t∧(∀y,y∈B1→R y x)∧∀y,y∈B2→R x y:=by
 refine⟨B.take t,B.drop t,(List.take_append_drop t B).symm,by simp[ht],?_,?_⟩
 ·intro y hy
  obtain⟨s,hs1,hs2⟩:=List.mem_iff_getElem.1 hy;simp at hs1;rw[List.getElem_take]at hs2;rcases h1 with h1|⟨z,h1,h3⟩
  ·omega
  ·obtain⟨hz1,hz2⟩:=List.getElem?_eq_some_iff.1 h1
   by_cases he:s=t-1
   ·subst he
    rw[←hs2,hz2];exact h3
   ·have:=List.pairwise_iff_getElem.1 hs s (t-1) (by omega) hz1 (by omega)
    rw[hs2,hz2]at this;exact tr _ _ _ this h3
 ·intro y hy
  obtain⟨s,hs1,hs2⟩:=List.mem_iff_getElem.1 hy;simp at hs1;rw[List.getElem_drop]at hs2;rcases h2 with h2|⟨z,h2,h3⟩
  ·omega
  ·obtain⟨hz1,hz2⟩:=List.getElem?_eq_some_iff.1 h2
   by_cases he:s=0
   ·subst he
    rw[←hs2];simpa[hz2]using h3
   ·have:=List.pairwise_iff_getElem.1 hs t (t+s) hz1 (by omega) (by omega)
    rw[hs2,hz2]at this;exact tr _ _ _ h3 this
theorem pair_mid {R:Nat→Nat→Prop} {B1 B2:List Nat} {x:Nat} (hs:(B1++B2).Pairwise R) (h1:∀y,y∈B1→R y x) (h2:∀y,y∈B2→R x y):(B1++x::B2).Pairwise R:=ins_mid hs h2 h1
theorem merge_first (w0 w:World) (blk n cap a m b bx:Nat) (D:Nat→Prop) (cf:Nat→Nat→Int) (R:Nat→Nat→Prop) (tr:∀x y z,R x y→R y z→R x z) (X B Y:List Nat) (x0:Nat) (h:DR w0 w blk n cap (X++[x0]++B++Y)) (hX:X.length=a) (hm:a+1=m) (hb:m+B.length=b)
 (hB:B.Pairwise R) (hCf:∀y,y∈B→Cf cf R x0 y) (hD0:D x0) (hD:∀x,x∈B→D x)
 (hC:CmpAt w0 blk #[.pointer (some ⟨bx,0,none⟩)] D cf) (hn:n≤10000000):
 Calls Tryz.prog 203 #[.slice (some ⟨blk,0,none⟩) n cap,.int .i64 (a:Int),.int .i64 (m:Int),.int .i64 (b:Int),.func (.func 129) #[] #[.pointer (some ⟨bx,0,none⟩)]] w fun e w'=>e=.returned (.tuple #[])∧∃Z,Z.Perm ([x0]++B)∧Z.Pairwise R∧DR w0 w' blk n cap (X++Z++Y):=by
 have hlen:=h.len;simp only[List.length_append,List.length_singleton]at hlen;have H:=hid h;have HX:=hid (And.intro hX (And.intro hm hb));have HB:=hid hB;have HDm:=hid (And.intro hD0 hD);have HCF:=hid hCf;have HC:=hid hC;have HTR:=hid tr;have hbN:b≤n:=by omega
 have hma:(m:Int)-(a:Int)=1:=by omega
 have mixed:=Tryz.mixedR;clear h hX hb hB hD0 hD hC hCf hlen tr;go_enter Tryz.func203,Tryz.ntmps203;go_wp2
 go_loopw [10,11] (fun s t wr=>∃i j:Nat,m≤i∧i≤j∧j≤b∧s=.int .i64 (i:Int)∧t=.int .i64 (j:Int)∧Hid ((i-m=0∨∃y,B[i-m-1]? =some y∧R y x0)∧(j-m=B.length∨∃y,B[j-m]? =some y∧R x0 y))∧Hid (DR w0 wr blk n cap (X++[x0]++B++Y))) (fun s t _=>(intOf t).toNat-(intOf s).toNat)
 case atStart=>exact⟨m,b,by omega,by have:=HX.out;omega,by omega,rfl,rfl,hid ⟨.inl (by omega),.inl (by have:=HX.out;omega)⟩,H⟩
 case round=>
  obtain⟨i,j,hmi,hij,hjb,rfl,rfl,hS,hD⟩:=hrel;by_cases hlt:i<j
  ·obtain⟨hh,hhe⟩:∃hh,(i+j)/2=hh:=⟨_,rfl⟩
   have hh1:i≤hh:=by omega
   have hh2:hh<j:=by omega
   have hltz:(i:Int)<(j:Int):=by omega
   have hhz:((i:Int)+(j:Int))/2=(hh:Int):=by omega
   obtain⟨y,hy⟩:∃y,B[hh-m]? =some y:=by
    have h1:=HX.out;exact⟨B[hh-m]'(by omega),List.getElem?_eq_getElem _⟩
   have hym:y∈B:=List.mem_of_getElem? hy
   have c1:=hD.out.cell hh y (by
    have h1:=HX.out;rw[List.getElem?_append_left (by simp;omega),List.getElem?_append_right (by simp;omega),←hy];congr 1;simp
    omega)
   have c2:=hD.out.cell a x0 (by
    have h1:=HX.out;have:=get_fst X (B++Y) x0;rw[h1.1]at this
    simpa using this)
   have hz1:(hh:Int)<(n:Int):=by omega
   have hz2:(a:Int)<(n:Int):=by omega
   have hzn:hh<n:=by omega
   have hzn2:a<n:=by omega
   have HCM:=hid (fun k=>HC.out y x0 (HDm.out.2 y hym) HDm.out.1 (wr.drewN k) (hD.out.fr.drewN k));have HCC:=hid (HCF.out y hym);have HY:=hid hy;have HHE:=hid hhe;clear hy hym hhe;by_cases hc:cf y x0<0
   ·have hcd:decide (cf y x0<0)=true:=decide_eq_true hc
    have HR:=hid (HCC.out.1 hc)
    go_wp2_with fail
    go_quiet ((go_at_call 129;exact Calls.quiet_of (HCM.out _)));go_wp2;go_roundw
    case rel=>
     refine⟨hh+1,j,by omega,by omega,hjb,by go_num,rfl,hid ⟨.inr ⟨y,?_,HR.out⟩,hS.out.2⟩,hid (hD.out.drewN _)⟩;rw[show hh+1-m-1=hh-m by omega];exact HY.out
    case measure=>simp[intOf];omega
   ·have hcd:decide (cf y x0<0)=false:=decide_eq_false hc
    have HR:=hid (HCC.out.2 hc)
    go_wp2_with fail
    go_quiet ((go_at_call 129;exact Calls.quiet_of (HCM.out _)));go_wp2;go_roundw
    case rel=>exact⟨i,hh,hmi,by omega,by omega,rfl,by go_num,hid ⟨hS.out.1,.inr ⟨y,HY.out,HR.out⟩⟩,hid (hD.out.drewN _)⟩
    case measure=>simp[intOf];omega
  ·obtain rfl:i=j:=by omega
   have hnl:¬((i:Int)<(i:Int)):=by omega
   obtain⟨B1,B2,hB12,hB1,hl1,hl2⟩:=split_at HTR.out HB.out (x:=x0) (t:=i-m) (by have:=HX.out;omega) hS.out.1 hS.out.2;have HF:=hid (And.intro hB12 (And.intro hB1 (And.intro hl1 hl2)));have hd0:DR w0 wr blk n cap (X++[]++[x0]++B1++B2++Y):=by have:=hD.out;rw[hB12]at this;simpa using this
   have HD0:=hid hd0;have hi1:(i:Int)-1=((a+B1.length:Nat):Int):=by have:=HX.out;omega
   obtain⟨e,he⟩:∃e,a+B1.length=e:=⟨_,rfl⟩;rw[he]at hi1;have hen:e<n:=by have:=HX.out;omega
   have HEE:=hid he;clear hB12 hB1 hl1 hl2 hd0 hD hS he;go_wp2
   go_loopw [13] (fun s wr=>∃(k:Nat) (C1 C2:List Nat),a≤k∧k≤e∧s=.int .i64 (k:Int)∧Hid (B1=C1++C2∧a+C1.length=k)∧Hid (DR w0 wr blk n cap (X++C1++[x0]++C2++B2++Y))) (fun s _=>e-(intOf s).toNat)
   case atStart=>exact⟨a,[],B1,by omega,by have:=HEE.out;omega,rfl,hid ⟨rfl,rfl⟩,HD0⟩
   case round=>
    clear HD0;obtain⟨k,C1,C2,hak,hke,rfl,hS,hD⟩:=hrel;by_cases hlt:k<e
    ·obtain⟨y,C3,rfl⟩:∃y C3,C2=y::C3:=by
      cases C2 with
      |nil=>have h1:=hS.out;have h2:=HEE.out;rw[h1.1]at h2;simp at h2;omega
      |cons y C3=>exact⟨y,C3,rfl⟩
     have hd:DR w0 wr blk n cap ((X++C1)++x0::([]++y::(C3++B2++Y))):=by simpa using hD.out
     have e1:(X++C1).length=k:=by have h1:=hS.out;have h2:=HX.out;rw[List.length_append];omega
     have c1:=hd.cell k x0 (by rw[←e1];exact get_fst _ _ _);have c2:=hd.cell (k+1) y (by have:=get_snd (X++C1) [] (C3++B2++Y) x0 y;rw[e1]at this;simpa using this);have f1:=hd.free k;have f2:=hd.free (k+1);have hkz:(k:Int)<(e:Int):=by omega
     have hz0:(k:Int)<(n:Int):=by omega
     have hz1:(k:Int)+1<(n:Int):=by omega
     have hz2:k+1<n:=by omega
     have hz3:k<n:=by omega
     have hw1:IntKind.i64.wrap ((k:Int)+1)=(k:Int)+1:=IntWalk.i64_in _ (by omega);have S1:=hid (hd.swap k (k+1) e1.symm (by rw[e1];rfl))
     have c3:(wr.setCell ⟨blk,k,none⟩ (.int .i64 (y:Int))).cell? ⟨blk,k+1,none⟩=some (.int .i64 (y:Int)):=by
      rw[World.cell?_setCell_other _ _ _ _ (by intro e;simp only[Addr.mk.injEq]at e;omega)];exact c2
     have f3:(wr.setCell ⟨blk,k,none⟩ (.int .i64 (y:Int))).frozen? ⟨blk,k+1,none⟩=false:=by rw[World.frozen?_setCell];exact f2
     clear hd e1
     go_wp2_with fail
     go_big_region_o
     go_wp2;go_roundw
     case rel=>
      refine⟨k+1,C1++[y],C3,by omega,by omega,by go_num,hid ⟨?_,?_⟩,hid (by simpa using S1.out.drew)⟩
      ·rw[hS.out.1];simp
      ·have:=hS.out.2;simp;omega
     case measure=>simp[intOf];omega
    ·have hke2:k=e:=by omega
     subst hke2
     have hC2:C2=[]:=by
      have h1:=hS.out;have h2:=HEE.out;rw[h1.1,List.length_append]at h2;exact List.eq_nil_of_length_eq_zero (by omega)
     subst hC2;have hnl2:¬((k:Int)<(k:Int)):=by omega
     go_wp2
     first|go_end0|go_ret|(refine bodyPost_ret (v:=.tuple #[]) (by simp[results,Tryz.results203,go_sem]) rfl ?_)
     refine⟨rfl,B1++x0::B2,?_,?_,?_⟩
     ·rw[HF.out.1];exact List.perm_middle
     ·exact pair_mid (by rw[←HF.out.1];exact HB.out) HF.out.2.2.1 HF.out.2.2.2
     ·have:=hD.out
      have h1:=hS.out.1;simp at h1;rw[h1];simpa using this
theorem merge_last (w0 w:World) (blk n cap a m b bx:Nat) (D:Nat→Prop) (cf:Nat→Nat→Int) (R:Nat→Nat→Prop) (tr:∀x y z,R x y→R y z→R x z) (X A Y:List Nat) (y0:Nat) (h:DR w0 w blk n cap (X++A++[y0]++Y)) (hX:X.length=a) (hA2:2≤A.length) (hm:a+A.length=m) (hb:m+1=b)
 (hA:A.Pairwise R) (hCf:∀x,x∈A→Cf cf R x y0) (hD0:D y0) (hD:∀x,x∈A→D x)
 (hC:CmpAt w0 blk #[.pointer (some ⟨bx,0,none⟩)] D cf) (hn:n≤10000000):
 Calls Tryz.prog 203 #[.slice (some ⟨blk,0,none⟩) n cap,.int .i64 (a:Int),.int .i64 (m:Int),.int .i64 (b:Int),.func (.func 129) #[] #[.pointer (some ⟨bx,0,none⟩)]] w fun e w'=>e=.returned (.tuple #[])∧∃Z,Z.Perm (A++[y0])∧Z.Pairwise R∧DR w0 w' blk n cap (X++Z++Y):=by
 have hlen:=h.len;simp only[List.length_append,List.length_singleton]at hlen;have H:=hid h;have HX:=hid (And.intro hX (And.intro hm hb));have HA:=hid hA;have HDm:=hid (And.intro hD0 hD);have HCF:=hid hCf;have HC:=hid hC;have HTR:=hid tr;have hmN:m<n:=by omega
 have ham:a+2≤m:=by omega
 have hma:((m:Int)-(a:Int)==1)=false:=beq_eq_false_iff_ne.2 (by omega);have hbm:(b:Int)-(m:Int)=1:=by omega
 have mixed:=Tryz.mixedR;clear h hX hb hA hD0 hD hC hCf hlen tr hA2 hm;go_enter Tryz.func203,Tryz.ntmps203;go_wp2
 go_loopw [14,15] (fun s t wr=>∃i j:Nat,a≤i∧i≤j∧j≤m∧s=.int .i64 (i:Int)∧t=.int .i64 (j:Int)∧Hid ((i-a=0∨∃x,A[i-a-1]? =some x∧R x y0)∧(j-a=A.length∨∃x,A[j-a]? =some x∧R y0 x))∧Hid (DR w0 wr blk n cap (X++A++[y0]++Y))) (fun s t _=>(intOf t).toNat-(intOf s).toNat)
 case atStart=>exact⟨a,m,by omega,by omega,by omega,rfl,rfl,hid ⟨.inl (by omega),.inl (by have:=HX.out;omega)⟩,H⟩
 case round=>
  obtain⟨i,j,hmi,hij,hjb,rfl,rfl,hS,hD⟩:=hrel;by_cases hlt:i<j
  ·obtain⟨hh,hhe⟩:∃hh,(i+j)/2=hh:=⟨_,rfl⟩
   have hh1:i≤hh:=by omega
   have hh2:hh<j:=by omega
   have hltz:(i:Int)<(j:Int):=by omega
   have hhz:((i:Int)+(j:Int))/2=(hh:Int):=by omega
   obtain⟨x,hx⟩:∃x,A[hh-a]? =some x:=by
    have h1:=HX.out;exact⟨A[hh-a]'(by omega),List.getElem?_eq_getElem _⟩
   have hxm:x∈A:=List.mem_of_getElem? hx
   have c1:=hD.out.cell hh x (by
    have h1:=HX.out
    rw[List.append_assoc,List.append_assoc,List.getElem?_append_right (by omega),List.getElem?_append_left (by omega),←hx,h1.1])
   have c2:=hD.out.cell m y0 (by
    have h1:=HX.out;have:=get_fst (X++A) Y y0;rw[List.length_append,h1.1,h1.2.1]at this
    simpa using this)
   have hz1:(hh:Int)<(n:Int):=by omega
   have hz2:(m:Int)<(n:Int):=by omega
   have hzn:hh<n:=by omega
   have HCM:=hid (fun k=>HC.out y0 x HDm.out.1 (HDm.out.2 x hxm) (wr.drewN k) (hD.out.fr.drewN k));have HCC:=hid (HCF.out x hxm);have HY:=hid hx;have HHE:=hid hhe;clear hx hxm hhe;by_cases hc:cf y0 x<0
   ·have hcd:decide (cf y0 x<0)=true:=decide_eq_true hc
    have HR:=hid (HCC.out.1 hc)
    go_wp2_with fail
    go_quiet ((go_at_call 129;exact Calls.quiet_of (HCM.out _)));go_wp2;go_roundw
    case rel=>exact⟨i,hh,hmi,by omega,by omega,rfl,by go_num,hid ⟨hS.out.1,.inr ⟨x,HY.out,HR.out⟩⟩,hid (hD.out.drewN _)⟩
    case measure=>simp[intOf];omega
   ·have hcd:decide (cf y0 x<0)=false:=decide_eq_false hc
    have HR:=hid (HCC.out.2 hc)
    go_wp2_with fail
    go_quiet ((go_at_call 129;exact Calls.quiet_of (HCM.out _)));go_wp2;go_roundw
    case rel=>
     refine⟨hh+1,j,by omega,by omega,hjb,by go_num,rfl,hid ⟨.inr ⟨x,?_,HR.out⟩,hS.out.2⟩,hid (hD.out.drewN _)⟩;rw[show hh+1-a-1=hh-a by omega];exact HY.out
    case measure=>simp[intOf];omega
  ·obtain rfl:i=j:=by omega
   have hnl:¬((i:Int)<(i:Int)):=by omega
   obtain⟨A1,A2,hA12,hA1,hl1,hl2⟩:=split_at HTR.out HA.out (x:=y0) (t:=i-a) (by have:=HX.out;omega) hS.out.1 hS.out.2;have HF:=hid (And.intro hA12 (And.intro hA1 (And.intro hl1 hl2)));have hd0:DR w0 wr blk n cap (X++A1++A2++[y0]++[]++Y):=by have:=hD.out;rw[hA12]at this;simpa using this
   have HD0:=hid hd0;have HA2:=hid (show i+A2.length=m from by have:=HX.out;have h2:=congrArg List.length hA12;rw[List.length_append]at h2;omega);clear hA12 hA1 hl1 hl2 hd0 hD hS;go_wp2
   go_loopw [17] (fun s wr=>∃(k:Nat) (C1 C2:List Nat),i≤k∧k≤m∧s=.int .i64 (k:Int)∧Hid (A2=C1++C2∧i+C1.length=k)∧Hid (DR w0 wr blk n cap (X++A1++C1++[y0]++C2++Y))) (fun s _=>(intOf s).toNat)
   case atStart=>exact⟨m,A2,[],by omega,by omega,rfl,hid ⟨by simp,HA2.out⟩,HD0⟩
   case round=>
    clear HD0;obtain⟨k,C1,C2,hak,hke,rfl,hS,hD⟩:=hrel;by_cases hlt:i<k
    ·obtain⟨C3,y,rfl⟩:∃C3 y,C1=C3++[y]:=by
      rcases snoc_or C1 with rfl|⟨L,y,rfl⟩
      ·have h1:=hS.out;simp at h1;omega
      ·exact⟨L,y,rfl⟩
     obtain⟨p,hp⟩:∃p,k=p+1:=⟨k-1,by omega⟩;subst hp;have hd:DR w0 wr blk n cap ((X++A1++C3)++y::([]++y0::(C2++Y))):=by simpa using hD.out
     have e1:(X++A1++C3).length=p:=by have h1:=hS.out.2;have h2:=HX.out;have h3:=HF.out.2.1;simp only[List.length_append,List.length_singleton]at h1 ⊢;omega
     have c1:=hd.cell p y (by rw[←e1];exact get_fst _ _ _);have c2:=hd.cell (p+1) y0 (by have:=get_snd (X++A1++C3) [] (C2++Y) y y0;rw[e1]at this;simpa using this);have f1:=hd.free p;have f2:=hd.free (p+1);have hkz:(i:Int)<(p:Int)+1:=by omega
     have hz0:(p:Int)<(n:Int):=by omega
     have hz1:(p:Int)+1<(n:Int):=by omega
     have hz2:p+1<n:=by omega
     have hz3:p<n:=by omega
     have hsub:(p:Int)+1-1=(p:Int):=by omega
     have S1:=hid (hd.swap' p (p+1) e1.symm (by rw[e1];rfl))
     have c3:(wr.setCell ⟨blk,p+1,none⟩ (.int .i64 (y:Int))).cell? ⟨blk,p,none⟩=some (.int .i64 (y:Int)):=by
      rw[World.cell?_setCell_other _ _ _ _ (by intro e;simp only[Addr.mk.injEq]at e;omega)];exact c1
     have f3:(wr.setCell ⟨blk,p+1,none⟩ (.int .i64 (y:Int))).frozen? ⟨blk,p,none⟩=false:=by rw[World.frozen?_setCell];exact f1
     clear hd e1
     go_wp2_with fail
     go_big_region_o
     go_wp2;go_roundw
     case rel=>
      refine⟨p,C3,y::C2,by omega,by omega,by go_num,hid ⟨?_,?_⟩,hid (by simpa using S1.out.drew)⟩
      ·rw[hS.out.1];simp
      ·have:=hS.out.2;simp only[List.length_append,List.length_singleton]at this;omega
     case measure=>simp[intOf]
    ·have hke2:k=i:=by omega
     subst hke2
     have hC1:C1=[]:=by
      have h1:=hS.out;exact List.eq_nil_of_length_eq_zero (by omega)
     subst hC1;have hnl2:¬((k:Int)<(k:Int)):=by omega
     go_wp2
     first|go_end0|go_ret|(refine bodyPost_ret (v:=.tuple #[]) (by simp[results,Tryz.results203,go_sem]) rfl ?_)
     refine⟨rfl,A1++y0::A2,?_,?_,?_⟩
     ·rw[HF.out.1]
      have q1:(A1++y0::A2).Perm (y0::(A1++A2)):=List.perm_middle;exact q1.trans (by simpa using(List.perm_append_comm (l₁:=[y0]) (l₂:=A1++A2)))
     ·exact pair_mid (by rw[←HF.out.1];exact HA.out) HF.out.2.2.1 HF.out.2.2.2
     ·have:=hD.out
      have h1:=hS.out.1;simp at h1;rw[h1];simpa using this
end Go.Proofs.YtmkkibaacclhnaaGreatDoor
