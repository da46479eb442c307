/-
  Part Sj.
-/
import Derived.Test.YtmkkibaacclhnaaGreatDoorCde
import Derived.Test.YtmkkibaacclhnaaGreatDoorBo
import Derived.Test.YtmkkibaacclhnaaGreatDoorCb
import Derived.Test.YtmkkibaacclhnaaGreatDoorWw
import Derived.Test.YtmkkibaacclhnaaGreatDoorBn
import Derived.Test.YtmkkibaacclhnaaGreatDoorWq
import Derived.Deep.CutBlock
namespace Go.Proofs.YtmkkibaacclhnaaGreatDoor
open Go.RowKit
set_option maxRecDepth 100000
set_option maxHeartbeats 40000000
theorem F3v (l:LU8):∃z,l=List.replicate z 48++A1g l/\(A1g l).head? ≠some 48:=by
 induction l with
 |nil=>exact⟨0,rfl,by simp[A1g]⟩
 |cons c l ih=>
  by_cases h:c=48
  ·obtain⟨z,e,b⟩:=ih
   have a:A1g (c::l)=A1g l:=by unfold A1g;rw[List.dropWhile_cons,if_pos (by simp[h])]
   rw[a];exact⟨z+1,by rw[List.replicate_succ,List.cons_append,<-e,h],b⟩
  ·have a:A1g (c::l)=c::l:=by unfold A1g;rw[List.dropWhile_cons,if_neg (by simp[h])]
   rw[a];exact⟨0,rfl,by simpa using h⟩
theorem F3w (l:LU8):∃k,l=A2e l++List.replicate k 48:=by
 refine C8b (P:=λl=>∃k,l=A2e l++List.replicate k 48) ⟨0,rfl⟩ ?_ l;intro a c ⟨k,e⟩;by_cases h:c=48
 ·subst h
  rw[B6i];refine⟨k+1,?_⟩;rw[List.replicate_succ',<-List.append_assoc,<-e]
 ·rw[C6d _ _ h]
  exact⟨0,by simp⟩
theorem E7m {l:LU8} (h:A4h l) (X:Int):B1q (num (dv l)) X (num (dv (A2e (A1g l)))) (X+((A1g l).length:Int)-((A2e (A1g l)).length:Int))/\A4h (A2e (A1g l))/\(A2e (A1g l)).head? ≠some 48:=by
 obtain⟨z,f,e⟩:=F3v l;obtain⟨k,a⟩:=F3w (A1g l)
 have j:num (dv l)=num (dv (A1g l)):=by
  conv=>lhs;rw[f,A4d,A2s,D4f,A8m]
  omega
 have i:num (dv (A1g l))=num (dv (A2e (A1g l)))*p10 k:=by
  conv=>lhs;rw[a,A4d,A2s,D4f,A8m,List.length_replicate]
  omega
 have m:(A1g l).length=(A2e (A1g l)).length+k:=by
  conv=>lhs;rw[a,List.length_append,List.length_replicate]
 have d:A4h (A1g l):=λc hc=>h c (by rw[f];exact List.mem_append_right _ hc)
 refine⟨?_,λc hc=>d c (by rw[a];exact List.mem_append_left _ hc),?_⟩
 ·rw[j,i,m,show X+((A2e (A1g l)).length+k:Nat)-((A2e (A1g l)).length:Int)=X+k by omega]
  have:=B1q.shift (num (dv (A2e (A1g l)))) k (X+k);rw[show X+(k:Int)-k=X by omega]at this;exact this.symm
 ·intro b
  cases g:A2e (A1g l)with
  |nil=>rw[g]at b;cases b
  |cons c r=>
   rw[g]at b a;rw[a]at e;exact e (by simpa using b)
theorem F3x (A B m:Nat):A6d (A*2^(-(((A0w m).2:Int)-1074-1)).toNat) (B*(2*(A0w m).1+1)*2^(((A0w m).2:Int)-1074-1).toNat)=A6d (2*(A*p2 1074)) (mid m*B):=by
 have b:=B1a m;have c:=B1n m;have d:=B4h m;rw[B2p A (B*(2*(A0w m).1+1)) (A0w m).2 1075 _ (by omega)]
 have a:B*(2*(A0w m).1+1)*p2 (A0w m).2=mid m*B:=by
  rw[d,b,c,Nat.mul_comm B,Nat.mul_right_comm,Nat.add_mul,Nat.one_mul,Nat.mul_assoc 2]
 rw[a,D2r,Nat.mul_left_comm A 2]
theorem E7n {N r A B:Nat} {X:Int} (l:A=N*p10 X.toNat) (j:B=p10 (-X).toNat) (hr:r<9218868437227405312) (n:V r*B<=A*p2 1074) (k:r+1=9218868437227405312\/A*p2 1074<V (r+1)*B):
 (¬(mid r*B<2*(A*p2 1074)\/(mid r*B=2*(A*p2 1074)/\r % 2=1))->A1t N X r)/\
 ((mid r*B<2*(A*p2 1074)\/(mid r*B=2*(A*p2 1074)/\r % 2=1))->A1t N X (r+1)):=by
 have e:N*pP X=A*p2 1074:=by rw[l];unfold pP;rw[Nat.mul_assoc]
 have f:0<B:=by rw[j];exact A0v _
 unfold A1t A3u Rnd;rw[e,<-j];generalize A*p2 1074=x at*;constructor
 ·intro h
  refine .inl ⟨hr,?_,?_⟩
  ·by_cases m:r=0
   ·exact .inl m
   ·right;left
    have a:=F6a (show r-1<r by omega);have b:mid (r-1)<2*V r:=by unfold mid;rw[show r-1+1=r by omega];omega
    have c:mid (r-1)*B<2*V r*B:=Nat.mul_lt_mul_of_pos_right b f;rw[Nat.mul_assoc]at c;omega
  ·rcases Nat.lt_trichotomy (2*x) (mid r*B)with c|c|c
   ·exact .inl c
   ·right
    refine⟨c,?_⟩;rcases Nat.mod_two_eq_zero_or_one r with d|d
    ·exact d
    ·exact absurd (Or.inr ⟨c.symm,d⟩) h
   ·exact absurd (Or.inl c) h
 ·intro h
  rcases Nat.lt_or_ge (r+1) 9218868437227405312 with i|i
  ·refine .inl ⟨i,.inr ?_,.inl ?_⟩
   ·rw[Nat.add_sub_cancel]
    rcases h with h|⟨h,d⟩
    ·exact .inl h
    ·exact .inr ⟨h,by omega⟩
   ·have k:=k.resolve_left (by omega)
    have a:=C2n (r+1);have b:2*V (r+1)<mid (r+1):=by unfold mid;omega
    have c:2*V (r+1)*B<mid (r+1)*B:=Nat.mul_lt_mul_of_pos_right b f;rw[Nat.mul_assoc]at c;omega
  ·have g:r=9218868437227405311:=by omega
   refine .inr ⟨by omega,?_⟩;rw[g]at h;rcases h with h|⟨h,d⟩<;>omega
def F3y (N:Nat) (X:Int) (e:Ending):Prop:=
 ∃r,A1t N X r/\((r<9218868437227405312/\e=.returned (.tuple #[.int .u64 (r:Int),.bool true]))\/(r=9218868437227405312/\∃v:Int,e=.returned (.tuple #[.int .u64 v,.bool false])))
theorem F9a (a b:Nat):0<=A6d a b↔b<=a:=by
 have h:=E5g a b;constructor
 ·intro d
  rcases Nat.lt_or_ge a b with c|c
  ·have:=h.2 c;omega
  ·exact c
 ·intro d
  rcases Int.lt_or_le (A6d a b) 0 with c|c
  ·have:=h.1 c;omega
  ·exact c
theorem B7j (L:Bool) (l:LU8) (X:Int) (w:World) (hl:l.length<=2000000) (hA:A4h l) (c6: -1200000000000<=X) (b9:X<=1200000000000):
 Calls Tryz.prog 190 #[.agg #[.bool L,.string (ofL l),.int .i64 X]] w λe w'=>F3y (num (dv l)) X e/\Fr (λ_=>False) w w':=by
 obtain⟨hS,a3,a0⟩:=E7m hA X;have HL:=hid (λw=>B5d L l X w (by omega) (by omega) (by omega));have c8:=C9n l;have b7:=E5j (A1g l);obtain⟨D,hD⟩:∃D,A2e (A1g l)=D:=⟨_,rfl⟩;obtain⟨Y,hY⟩:∃Y,X+((A1g l).length:Int)-((A2e (A1g l)).length:Int)=Y:=⟨_,rfl⟩;have d4: -1200000000000<=Y/\Y<=1200002000000:=by omega
 rw[hY,hD]at hS;rw[hD]at a3 a0 b7;have d5:D.length<=2000000:=by omega
 have HS:=hid hS;have a4:=hid a3;have c4:=hid (show D.head? =some 48↔False from⟨a0,False.elim⟩);rw[hY,hD]at HL;have d2:=A0c D;clear hS a3 a0 hD hY hA c8 b7 hl c6 b9;go_enter Tryz.func190,Tryz.ntmps190
 go_wp2_with fail
 refine(HL.out _).mono ?_;rintro e w1 ⟨rfl,a1⟩;have H:=hid ((A6e.new w (.bool L) (.string (ofL l)) (.int .i64 X)).fr a1);have F1:=hid (((Fr.refl (λ_=>False) w).alloc _).trans a1);have d0:w.heap.size<w1.heap.size:=lt_of_block H.out;have c0:=H.c.1;have c1:=H.c.2.1;have c2:=H.c.2.2;have f0:=A0u (j:=0) H.out;have f1:=A0u (j:=1) H.out;have f2:=A0u (j:=2) H.out;clear a1 HL
 go_upto_region 2 with fail
 have T2:=hid (show A6e (((w1.setCell ⟨w.heap.size,0,none⟩ (.bool L)).setCell ⟨w.heap.size,1,none⟩ (.string (ofL D))).setCell ⟨w.heap.size,2,none⟩ (.int .i64 Y)) w.heap.size (.bool L) (.string (ofL D)) (.int .i64 Y)from A1y (A1s (A2u H.out)));have F2:=hid (((F1.setCell (p:=⟨w.heap.size,0,none⟩) (.inr (Nat.le_refl _)) (.bool L)).setCell (p:=⟨w.heap.size,1,none⟩) (.inr (Nat.le_refl _)) (.string (ofL D))).setCell (p:=⟨w.heap.size,2,none⟩) (.inr (Nat.le_refl _)) (.int .i64 Y));clear c0 c1 c2 f0 f1 f2 H F1;generalize ((w1.setCell ⟨w.heap.size,0,none⟩ (.bool L)).setCell ⟨w.heap.size,1,none⟩ (.string (ofL D))).setCell ⟨w.heap.size,2,none⟩ (.int .i64 Y)=W2 at*;have c0:=T2.c.1;have c1:=T2.c.2.1;have c2:=T2.c.2.2;by_cases J:D=[]
 ·subst J
  have c5:(ofL []).toList.isEmpty=true:=by rw[A0y];rfl
  go_wp2;go_ret2;exact⟨⟨0,(A1t.zero _).same HS.symm,.inl ⟨by omega,rfl⟩⟩,F2.out⟩
 ·have c5:(ofL D).toList.isEmpty=false:=by rw[A0y];cases D with|nil=>exact absurd rfl J|cons=>rfl
  have c7:=hid (show D=[]↔False from⟨J,False.elim⟩);clear J;by_cases d3:(D.length:Int)+Y< -400
  ·go_wp2
   go_ret2;exact⟨⟨0,(A1t.small (A7i _ a4.digs) (by rw[A3e];omega)).same HS.symm,.inl ⟨by omega,rfl⟩⟩,F2.out⟩
  ·by_cases d1:400<(D.length:Int)+Y
   ·have HB:=hid (A1t.big (x:=Y) (E2m D a4.out c7.1 c4.1) (by omega))
    go_wp2;go_ret2;exact⟨⟨_,HB.same HS.symm,.inr ⟨rfl,_,rfl⟩⟩,F2.out⟩
   ·go_wp2_with fail
    refine(E5f L D Y _ (by omega) a4.out (by omega) (by omega)).mono ?_;rintro e w3 ⟨fv,rfl,S,b6⟩;obtain⟨A,hA⟩:∃A,num (dv D)*p10 Y.toNat=A:=⟨_,rfl⟩;obtain⟨B,hB⟩:∃B,p10 (-Y).toNat=B:=⟨_,rfl⟩;rw[hA,hB]at S;have U:=hid (And.intro hA hB);have a9:=hid S;obtain⟨va,vb,xs,ys,rfl,b1,b2,b3⟩:=S;obtain⟨O,N,rfl⟩:=A1e b1;obtain⟨Q,M,rfl⟩:=A1e b2;generalize xs.length=na at*;generalize ys.length=nb at*;have F3:=hid (F2.trans b6);clear b6 F2 hA hB b1 b2 b3 c0 c1 c2 T2
    go_upto_block 0 with fail
    have T5:=hid (E0t.new w3 (.slice O na N) (.slice Q nb M));have G5:=hid (a9.fr ((Fr.refl _ w3).alloc (.cells #[.slice O na N,.slice Q nb M] 228)));have F5:=hid (F3.alloc (.cells #[.slice O na N,.slice Q nb M] 228));clear a9 F3;generalize w3.alloc (.cells #[.slice O na N,.slice Q nb M] 228)=W5 at*;generalize w3.heap.size=B5 at*
    go_cut [6] (λlv wc=>∃f:Nat,lv=.int .u64 (f:Int)/\Hid (f<9218868437227405312)/\Hid (V f*B<=A*p2 1074)/\Hid (f+1=9218868437227405312\/A*p2 1074<V (f+1)*B)/\Hid (E0t wc B5 (.slice O na N) (.slice Q nb M))/\Hid (A7b wc (.agg #[.slice O na N,.slice Q nb M]) A B 9000000)/\Hid (Fr (λ_=>False) w wc))
    case first=>
     go_wp2;have b5:=hid (show V 0*B<=A*p2 1074 by rw[F9z,Nat.zero_mul];exact Nat.zero_le _)
     go_loopw [6,7] (λlv tv wr=>∃f t:Nat,lv=.int .u64 (f:Int)/\tv=.int .u64 (t:Int)/\Hid (f<t/\t<=9218868437227405312)/\Hid (V f*B<=A*p2 1074)/\Hid (t=9218868437227405312\/A*p2 1074<V t*B)/\Hid (E0t wr B5 (.slice O na N) (.slice Q nb M))/\Hid (A7b wr (.agg #[.slice O na N,.slice Q nb M]) A B 9000000)/\Hid (Fr (λ_=>False) w wr)) (λlv tv _=>(intOf tv-intOf lv).toNat)
     case atStart=>exact⟨0,9218868437227405312,rfl,rfl,hid (by omega),b5,hid (.inl rfl),T5,G5,F5⟩
     case round=>
      clear T5 G5 F5 b5;obtain⟨f,t,rfl,rfl,u,P,K,T,G,F⟩:=hrel;obtain⟨d,hd⟩:∃d:Nat,d=t-f:=⟨_,rfl⟩
      have c9:IntKind.u64.wrap ((t:Int)-(f:Int))=(d:Int):=by
       have:=u.out;rw[show(t:Int)-(f:Int)=(d:Int) by omega];exact IntWalk.u64_in _ ⟨by omega,by omega⟩
      have HD:=hid hd;clear hd;by_cases h1:1<d
      ·obtain⟨h,hh⟩:∃h:Nat,h=d/2:=⟨_,rfl⟩
       obtain⟨i,a6⟩:∃i:Nat,i=f+h:=⟨_,rfl⟩
       have hq:IntKind.u64.wrap ((d:Int)/2)=(h:Int):=by
        have:=u.out;have:=HD.out;rw[show(d:Int)/2=(h:Int) by omega];exact IntWalk.u64_in _ ⟨by omega,by omega⟩
       have a8:IntKind.u64.wrap ((f:Int)+(h:Int))=(i:Int):=by
        have:=u.out;have:=HD.out;rw[show(f:Int)+(h:Int)=(i:Int) by omega];exact IntWalk.u64_in _ ⟨by omega,by omega⟩
       have HM:=hid (And.intro hh a6);clear hh a6;have k0:=T.c.1;have k1:=T.c.2;have q:=hid (show i<9218868437227405312/\f<i/\i<t by have:=u.out;have:=HD.out;have:=HM.out;omega);obtain⟨n,hn⟩:∃n,(A0w i).1=n:=⟨_,rfl⟩;obtain⟨E,hE⟩:∃E,(A0w i).2=E:=⟨_,rfl⟩;have g:=hid (And.intro hn hE);clear hn hE
       go_wp2_with fail
       refine(B1z i _ (by have:=q.out;omega)).mono ?_;rintro e w6 ⟨rfl,rfl⟩;rw[g.1,g.2]
       go_wp2_with fail
       refine(F7y _ _ _ 9000000 i n E _ _ _ q.1 g.1 g.2 rfl rfl (by omega) G.out).mono ?_;rintro e w7 ⟨rfl,o⟩;have T7:=hid (T.fr o);have G7:=hid (G.fr o);have F7:=hid (F.trans o);obtain⟨k,s⟩:∃k,A6d (A*p2 1074) (B*V i)=k:=⟨_,rfl⟩;have b8:=hid (show 0<=k↔V i*B<=A*p2 1074 by rw[<-s,Nat.mul_comm (V i) B];exact F9a _ _);rw[s];clear s o T G F k0 k1;by_cases hc:0<=k
       ·have HN:=hid (b8.1 hc)
        go_wp2;go_roundw
        case rel=>exact⟨i,t,rfl,rfl,hid (by have:=u.out;have:=q.out;omega),HN,K,T7,G7,F7⟩
        case measure=>have:=u.out;have:=q.out;simp[intOf];omega
       ·have HN:=hid (show A*p2 1074<V i*B from Nat.lt_of_not_le λh=>hc (b8.2 h))
        go_wp2;go_roundw
        case rel=>exact⟨f,i,rfl,rfl,hid (by have:=u.out;have:=q.out;omega),P,hid (.inr HN.out),T7,G7,F7⟩
        case measure=>have:=u.out;have:=q.out;simp[intOf];omega
      ·have b0:=hid (show t=f+1 by have:=u.out;have:=HD.out;omega)
       go_wp2;go_meet;refine⟨f,rfl,hid ?_,P,hid ?_,T,G,F⟩
       ·have:=u.out;have:=b0.out;omega
       ·rw[<-b0.out];exact K.out
    case rest=>
     obtain⟨f,rfl,m,b4,a5,T,G,F⟩:=hcut;clear T5 G5 F5;obtain⟨n,hn⟩:∃n,(A0w f).1=n:=⟨_,rfl⟩;obtain⟨E,hE⟩:∃E,(A0w f).2=E:=⟨_,rfl⟩;have u:=B5c f m.out;rw[hn,hE]at u;have g:=hid (And.intro hn hE);clear hn hE;have k0:=T.c.1;have k1:=T.c.2
     go_wp2_with fail
     refine(B1z f _ (by have:=m.out;omega)).mono ?_;rintro e w6 ⟨rfl,rfl⟩;rw[g.1,g.2]
     go_wp2_with fail
     refine(A5j _ A B 9000000 _ (2*n+1) _ _ (by omega) (by omega) (by omega) (by omega) (by omega) G.out).mono ?_;rintro e w7 ⟨rfl,o⟩;have F7:=hid (F.trans o);have R:=F3x A B f;rw[g.1,g.2]at R;rw[R];have y:=hid (E7n U.1.symm U.2.symm m.out b4.out a5.out);have W:=hid (C6j (2*(A*p2 1074)) (mid f*B));have a2:=hid (D2q (2*(A*p2 1074)) (mid f*B));obtain⟨k,s⟩:∃k,A6d (2*(A*p2 1074)) (mid f*B)=k:=⟨_,rfl⟩;rw[s]at W a2 ⊢;obtain⟨UP,Z⟩:∃UP:Prop,(mid f*B<2*(A*p2 1074)\/(mid f*B=2*(A*p2 1074)/\f % 2=1))=UP:=⟨_,rfl⟩
     have I:=hid (show UP↔(0<k\/(k=0/\f % 2=1)) by
      rw[<-Z,W.out,a2.out,eq_comm (a:=2*(A*p2 1074))])
     rw[Z]at y;clear R s Z o T G F k0 k1 W a2 b4 a5 U
     go_upto_region 19 with fail
     go_cut [79] (λb wc=>b=.bool (decide (0<k\/(k=0/\f % 2=1)))/\wc=w7)
     case first=>
      by_cases h1:0<k
      ·go_wp2
       go_meet;exact⟨by rw[dcT (.inl h1)],rfl⟩
      ·by_cases h0:k=0
       ·subst h0
        rcases Nat.mod_two_eq_zero_or_one f with h2|h2
        ·have hq:((f:Int) % 2==1)=false:=bqF (by omega)
         have H2:=hid h2;clear h2;go_wp2;go_meet;exact⟨by have:=H2.out;rw[dcF (by omega)],rfl⟩
        ·have hq:((f:Int) % 2==1)=true:=beq_iff_eq.2 (by omega)
         have H2:=hid h2;clear h2;go_wp2;go_meet;exact⟨by simp[H2.out],rfl⟩
       ·go_wp2
        go_meet;exact⟨by rw[dcF (by omega)],rfl⟩
     case rest=>
      obtain⟨rfl,rfl⟩:=hcut;by_cases hu:0<k\/(k=0/\f % 2=1)
      ·have z:=hid (y.2 (I.2 hu))
       rw[dcT hu];clear hu I y;obtain⟨r,hr⟩:∃r:Nat,r=f+1:=⟨_,rfl⟩
       have a8:IntKind.u64.wrap ((f:Int)+1)=(r:Int):=by
        have:=m.out;rw[show(f:Int)+1=(r:Int) by omega];exact IntWalk.u64_in _ ⟨by omega,by omega⟩
       rw[<-hr]at z;have c3:=hid hr;clear hr;by_cases v:r<9218868437227405312
       ·have a7:decide ((r:Int)<9218868437227405312)=true:=dcT (by omega)
        have C:=hid v;clear v;go_wp2;go_ret2;exact⟨⟨r,z.same HS.symm,.inl ⟨C.out,rfl⟩⟩,F7.out⟩
       ·have a7:decide ((r:Int)<9218868437227405312)=false:=dcF (by omega)
        have C:=hid (show r=9218868437227405312 by have:=m.out;have:=c3.out;omega);clear v;go_wp2;go_ret2;exact⟨⟨r,z.same HS.symm,.inr ⟨C.out,_,rfl⟩⟩,F7.out⟩
      ·have z:=hid (y.1 (λh=>hu (I.1 h)))
       rw[dcF hu];clear hu I y;have a7:decide ((f:Int)<9218868437227405312)=true:=dcT (by have:=m.out;omega);go_wp2;go_ret2;exact⟨⟨f,z.same HS.symm,.inl ⟨m.out,rfl⟩⟩,F7.out⟩
def A3m (fr:LU8) (en:Bool) (ex:LU8):Int:=(if en then-((min (num (dv ex)) 1099511627776:Nat):Int)else((min (num (dv ex)) 1099511627776:Nat):Int))-(fr.length:Int)
theorem C4a {l fr ex:LU8} {en:Bool} {r:Nat} (c:A4h l) (f:l.length<=2000000) (g:fr.length<=2000000) (h:A1t (num (dv l)) (A3m fr en ex) r):A1t (num (dv l)) (D7j fr en ex) r:=by
 unfold A3m at h;unfold D7j;have b:=A7i _ c.digs;rw[A3e]at b;generalize num (dv ex)=q at*;generalize num (dv l)=N at*;by_cases d:q<=1099511627776
 ·rwa[Nat.min_eq_left d]at h
 ·rw[Nat.min_eq_right (by omega)]at h
  by_cases e:N=0
  ·subst e
   have:=h.uniq (A1t.zero _);subst this;exact A1t.zero _
  ·have a:p10 0<=N:=by show 1<=N;omega
   cases en
   ·simp only[Bool.false_eq_true,if_false]at h ⊢
    have:=h.uniq (A1t.big a (by omega));subst this;exact A1t.big a (by omega)
   ·simp only[if_true]at h ⊢
    have:=h.uniq (A1t.small b (by omega));subst this;exact A1t.small b (by omega)
def E7p (l:LU8) (e:Ending):Prop:=
 (A9i l=none/\e=.returned (.tuple #[.int .u64 0,.int .i64 3]))\/
 ∃neg wh fr en ex r,A9i l=some (neg,wh,fr,en,ex)/\A1t (num (dv (wh++fr))) (D7j fr en ex) r/\e=.returned (.tuple #[.int .u64 ((A2z neg r).1:Nat),.int .i64 ((A2z neg r).2:Nat)])
theorem E0c (neg:Bool):A2z neg 9218868437227405312=(0,6):=if_pos (Nat.le_refl _)
theorem C4b {r:Nat} (neg:Bool) (h:r<9218868437227405312):A2z neg r=(if neg then r+9223372036854775808 else r,0):=if_neg (by omega)
theorem F5w {l a fr ex:LU8} {neg en:Bool} (h:Pc l neg a fr en ex):a.length+fr.length<=l.length:=by
 obtain⟨b,s,_,_,rfl⟩:=h.l;have:fr.length<=(frP fr).length:=by unfold frP;split<;>simp_all
 simp only[List.length_append];omega
theorem E0d (l:LU8) (w:World) (H:l.length<=2000000):
 Calls Tryz.prog 149 #[.string (ofL l)] w λe w'=>E7p l e/\Fr (λ_=>False) w w':=by
 have p:=hid H;clear H;go_enter Tryz.func149,Tryz.ntmps149
 go_wp2_with fail
 refine(A9q l _ (by have:=p.out;omega)).mono ?_;rintro e K ⟨⟨d,g⟩,k⟩;have I:=hid k;cases b:A9i l with
 |none=>
  obtain⟨m,D,X,rfl⟩:=g b;have q:=hid b;clear d g k b;go_wp2;go_ret2;exact⟨.inl ⟨q.out,rfl⟩,I.alloc _⟩
 |some x=>
  obtain⟨neg,i,fr,en,ex⟩:=x;obtain rfl:=d _ _ _ _ _ b;have q:=hid b;have a:=E2q b;have y:=F5w a;have F:B4b neg i fr en ex=.agg #[.bool neg,.string (ofL (i++fr)),.int .i64 (A3m fr en ex)]:=rfl;rw[F]
  have B: -1100000000000<=A3m fr en ex/\A3m fr en ex<=1100000000000:=by
   have:=p.out;have:=Nat.min_le_right (num (dv ex)) 1099511627776;unfold A3m;cases en
   ·simp only[Bool.false_eq_true,if_false];omega
   ·simp only[if_true];omega
  have G:=hid (λw=>B7j neg (i++fr) (A3m fr en ex) w (by have:=p.out;rw[List.length_append];omega) (a.w.1.append a.f) (by omega) (by omega));have n:=hid (λr=>C4a (r:=r) (fr:=fr) (en:=en) (ex:=ex) (a.w.1.append a.f) (by have:=p.out;rw[List.length_append];omega) (by have:=p.out;omega));generalize A:A3m fr en ex=X at*;clear d g k b F B a y A
  go_wp2_with fail
  refine(G.out _).mono ?_;rintro e L ⟨⟨r,hr,t⟩,j⟩;have J:=hid ((A6e.new K (.bool neg) (.string (ofL (i++fr))) (.int .i64 X)).fr j);have z:=hid ((I.alloc _).trans j);have M:=J.c.1;have C:=hid (n.out r hr);clear hr j G n;rcases t with⟨s,rfl⟩|⟨rfl,v,rfl⟩
  ·have h:=hid s
   clear s;cases neg
   ·go_wp2
    go_ret2;exact⟨.inr ⟨false,i,fr,en,ex,r,q.out,C.out,by rw[C4b false h.out];rfl⟩,z.out⟩
   ·have E:IntKind.u64.wrap ((r:Int)+9223372036854775808)=((r+9223372036854775808:Nat):Int):=by
     have:=h.out;rw[show(r:Int)+9223372036854775808=((r+9223372036854775808:Nat):Int) by omega];exact IntWalk.u64_in _ ⟨by omega,by omega⟩
    generalize o:r+9223372036854775808=rr at*;have u:=hid o;clear o;go_wp2;go_ret2;exact⟨.inr ⟨true,i,fr,en,ex,r,q.out,C.out,by rw[C4b true h.out,if_pos rfl,u.out];rfl⟩,z.out⟩
  ·go_wp2
   go_ret2;exact⟨.inr ⟨neg,i,fr,en,ex,_,q.out,C.out,by rw[E0c];rfl⟩,z.out⟩
theorem C4c {l:LU8} (h:A9i l=none):A7c l=false:=E5x (λ_ ht=>B8i h ht)
theorem E0e {l:LU8} {neg:Bool} {b fr:LU8} {en:Bool} {ex:LU8} {r:Nat} (w:World) (a:l.length<=1000000000000000) (e:A9i l=some (neg,b,fr,en,ex)) (hr:A1t (num (dv (b++fr))) (D7j fr en ex) r):A7c l=decide (9218868437227405312<=r):=by
 obtain⟨t,h,f,g,_,d,c⟩:=B5f w a e;rw[B6m w a f g,D5j d,hr.uniq c]
theorem C1c (l:LU8) (w:World) (I:l.length<=2000000):
 Calls Tryz.prog 147 #[.string (ofL l)] w λe w'=>e=.returned (.bool (A7c l))/\Fr (λ_=>False) w w':=by
 have h:=hid I;clear I;obtain⟨G,y⟩:∃G,A7c l=G:=⟨_,rfl⟩;rw[y];have A:=hid y;clear y;go_enter Tryz.func147,Tryz.ntmps147
 go_wp2_with fail
 refine(A9q l _ (by have:=h.out;omega)).mono ?_;rintro e L ⟨⟨c,d⟩,g⟩;have J:=hid g;cases b:A9i l with
 |none=>
  obtain⟨m,D,X,rfl⟩:=d b;have C:=hid b;clear c d g b;go_wp2;go_ret;rw[<-A.out,C4c C.out];exact⟨rfl,J.alloc _⟩
 |some x=>
  obtain⟨neg,u,fr,en,ex⟩:=x;obtain rfl:=c _ _ _ _ _ b;have C:=hid b;have a:=E2q b;have s:=F5w a;have F:B4b neg u fr en ex=.agg #[.bool neg,.string (ofL (u++fr)),.int .i64 (A3m fr en ex)]:=rfl;rw[F]
  have B: -1100000000000<=A3m fr en ex/\A3m fr en ex<=1100000000000:=by
   have:=h.out;have:=Nat.min_le_right (num (dv ex)) 1099511627776;unfold A3m;cases en
   ·simp only[Bool.false_eq_true,if_false];omega
   ·simp only[if_true];omega
  have H:=hid (λw=>B7j neg (u++fr) (A3m fr en ex) w (by have:=h.out;rw[List.length_append];omega) (a.w.1.append a.f) (by omega) (by omega));have i:=hid (λr=>C4a (r:=r) (fr:=fr) (en:=en) (ex:=ex) (a.w.1.append a.f) (by have:=h.out;rw[List.length_append];omega) (by have:=h.out;omega));generalize z:A3m fr en ex=X at*;clear c d g b F B a s z
  go_wp2_with fail
  refine(H.out _).mono ?_;rintro e M ⟨⟨r,hr,p⟩,n⟩;have E:=hid ((J.alloc _).trans n);have K:=hid (i.out r hr);clear hr n H i;have k:=hid (E0e w (by have:=h.out;omega) C.out K.out);rcases p with⟨o,rfl⟩|⟨j,v,rfl⟩
  ·have t:=hid o
   clear o;go_wp2;go_ret;rw[<-A.out,k.out,dcF (by have:=t.out;omega)];exact⟨rfl,E.out⟩
  ·have q:=hid j
   clear j;go_wp2;go_ret;rw[<-A.out,k.out,dcT (by have:=q.out;omega)];exact⟨rfl,E.out⟩
theorem F3z (l:LU8) (w:World) (v:l.length<=100000000):
 Calls Tryz.prog 146 #[.string (ofL l)] w λe w'=>e=.returned (.bool (B6n l))/\w'=w:=by
 have m:=A0c l;obtain⟨G,j⟩:∃G,B6n l=G:=⟨_,rfl⟩;rw[j];have q:=hid j;clear j;go_enter Tryz.func146,Tryz.ntmps146;go_wp2
 go_loopw [3] (λi wr=>∃k:Nat,k<=l.length/\i=.int .i64 k/\Hid (B6n (l.drop k)=G)/\wr=w) (λi _=>l.length-(intOf i).toNat)
 case atStart=>exact⟨0,by omega,rfl,q,rfl⟩
 case round=>
  obtain⟨k,t,rfl,a,rfl⟩:=hrel;by_cases f:k<l.length
  ·have r:(ofL l)[k]'(by rw[m];exact f)=l[k]:=A1d l k _
   have n:l.drop k=l[k]::l.drop (k+1):=List.drop_eq_getElem_cons f;rw[n,B6n]at a;generalize l[k]=c at*;clear n;by_cases g:c=101
   ·rw[if_pos (.inl g)]at a
    subst g;go_wp2;go_ret;rw[<-a.out];exact⟨rfl,rfl⟩
   have s:((c.toNat:Int)!=101)=true:=bne_iff_ne.2 (by have:=A0k g;simp at this;omega);by_cases d:c=69
   ·rw[if_pos (.inr d)]at a
    subst d;go_wp2;go_ret;rw[<-a.out];exact⟨rfl,rfl⟩
   have u:((c.toNat:Int)!=69)=true:=bne_iff_ne.2 (by have:=A0k d;simp at this;omega);rw[if_neg (by rintro(h|h);exact g h;exact d h)]at a;clear g d;by_cases b:49<=c.toNat/\c.toNat<=57
   ·rw[if_pos b]at a
    obtain⟨o,p⟩:=b;go_wp2;go_ret;rw[<-a.out];exact⟨rfl,rfl⟩
   ·rw[if_neg b]at a
    by_cases o:49<=c.toNat
    ·have p:¬c.toNat<=57:=λh=>b ⟨o,h⟩
     clear b;go_wp2;go_roundw
     case rel=>exact⟨k+1,by omega,by go_num,a,trivial⟩
     case measure=>simp[intOf];omega
    ·clear b
     go_wp2;go_roundw
     case rel=>exact⟨k+1,by omega,by go_num,a,trivial⟩
     case measure=>simp[intOf];omega
  ·obtain rfl:k=l.length:=by omega
   rw[List.drop_length,B6n]at a;go_wp2;go_ret;rw[<-a.out];exact⟨rfl,rfl⟩
def suV (k:Nat):LU8:=if k=0 then[]else if k=1 then[48]else if k=2 then[46,48]else if k=3 then[48,46,48]else[101,48]
def D3n:Array Value:=#[.string (ofL []),.string (ofL [48]),.string (ofL [46,48]),.string (ofL [48,46,48]),.string (ofL [101,48])]
theorem F4a {l:LU8} (h:∀j,j<5->A9i (l++suV j)=none):(run t0 l).isSome=false:=by
 cases hr:run t0 l with
 |none=>rfl
 |some t=>
  exfalso;rcases D8v hr with a|⟨d,b,c⟩
  ·have:=h 0 (by omega)
   rw[show suV 0=[]from rfl,List.append_nil]at this;exact B8i this hr a
  ·exact B8i (h 1 (by omega)) b c
theorem B2d {l b:LU8} (w:World) (c:(l++b).length<=1000000000000000) (h:A9i (l++b)≠none):(run t0 l).isSome=true:=by
 obtain⟨t,a,_⟩:=F8h w c h;cases hr:run t0 l with
 |some t=>rfl
 |none=>rw[D8w hr b]at a;cases a
theorem E7q (l:LU8) (w:World) (S:l.length<=1900000):
 Calls Tryz.prog 145 #[.string (ofL l)] w λe w'=>e=.returned (.bool (run t0 l).isSome)/\Fr (λ_=>False) w w':=by
 have Q:=A0c l;obtain⟨G,O⟩:∃G,(run t0 l).isSome=G:=⟨_,rfl⟩;rw[O];have H:=hid O;clear O;obtain⟨E,B⟩:∃E,E=w.alloc (.cells D3n 9):=⟨_,rfl⟩;have I:E.heap[w.heap.size]? =some (.cells D3n 9 (0,0)):=by rw[B];exact heap_alloc_new _ _
 have Fa:=hid (show Fr (λ_=>False) w E by rw[B];exact(Fr.refl _ _).alloc _);have N:=hid I;have M:=hid B;clear I B;go_enter Tryz.func145,Tryz.ntmps145;go_wp2;rw[show w.alloc (.cells #[.string ⟨#[]⟩,.string ⟨#[48]⟩,.string ⟨#[46,48]⟩,.string ⟨#[48,46,48]⟩,.string ⟨#[101,48]⟩] 9)=E from M.symm]
 go_loopw [4] (λi wr=>∃k:Nat,k<=5/\i=.int .i64 k/\Hid (Fr (λ_=>False) E wr)/\Hid (∀j,j<k->A9i (l++suV j)=none)) (λi _=>5-(intOf i).toNat)
 case atStart=>exact⟨0,by omega,rfl,hid (Fr.refl _ _),hid (λj hj=>by omega)⟩
 case round=>
  obtain⟨k,R,rfl,u,F⟩:=hrel;have z:∀j v,D3n[j]? =some v->wr.cell? ⟨w.heap.size,j,none⟩=some v:=λj v hv=>A0a (u.heap N.out id) hv
  have P:k=0\/k=1\/k=2\/k=3\/k=4\/k=5:=by omega
  rcases P with rfl|rfl|rfl|rfl|rfl|rfl
  ·have J:=z 0 (.string (ofL [])) rfl
   have q:ofL l++ofL []=ofL (l++suV 0):=A0j l [];have A:(ofL []).size=0:=rfl;have n:(l++suV 0).length<=1900100:=by rw[List.length_append];show l.length+0<=_;omega
   obtain⟨m,o⟩:∃m,l++suV 0=m:=⟨_,rfl⟩;rw[o]at q n;have p:=hid o;clear o;generalize g:ofL []=cs at*;clear g z
   go_wp2_with fail
   refine(A9q m _ (by omega)).mono ?_;rintro e L ⟨⟨c,d⟩,f⟩;have t:=hid f;cases a:A9i m with
   |none=>
    obtain⟨K,D,X,rfl⟩:=d a;have C:=hid a;clear c d f a;go_wp2;go_roundw
    case rel=>exact⟨1,by omega,by go_num,hid ((u.trans t.out).alloc _),hid (λj hj=>by
     by_cases e:j=0
     ·subst e;rw[p.out];exact C.out
     ·exact F.out j (by omega))⟩
    case measure=>simp[intOf]
   |some x=>
    obtain⟨neg,r,fr,en,ex⟩:=x;obtain rfl:=c _ _ _ _ _ a;have s:B4b neg r fr en ex=.agg #[.bool neg,.string (ofL (r++fr)),.int .i64 (A3m fr en ex)]:=rfl;rw[s];have y:=hid (show(run t0 l).isSome=true from B2d (b:=suV 0) w (by rw[p.out];omega) (by rw[p.out,a];simp));clear c d f a s;go_wp2;go_ret;rw[<-H.out,y.out];exact⟨rfl,(Fa.trans' ((u.trans t.out).alloc _) (λ_ h=>h.elim))⟩
  ·have J:=z 1 (.string (ofL [48])) rfl
   have q:ofL l++ofL [48]=ofL (l++suV 1):=A0j l [48];have A:(ofL [48]).size=1:=rfl;have n:(l++suV 1).length<=1900100:=by rw[List.length_append];show l.length+1<=_;omega
   obtain⟨m,o⟩:∃m,l++suV 1=m:=⟨_,rfl⟩;rw[o]at q n;have p:=hid o;clear o;generalize g:ofL [48]=cs at*;clear g z
   go_wp2_with fail
   refine(A9q m _ (by omega)).mono ?_;rintro e L ⟨⟨c,d⟩,f⟩;have t:=hid f;cases a:A9i m with
   |none=>
    obtain⟨K,D,X,rfl⟩:=d a;have C:=hid a;clear c d f a;go_wp2;go_roundw
    case rel=>exact⟨2,by omega,by go_num,hid ((u.trans t.out).alloc _),hid (λj hj=>by
     by_cases e:j=1
     ·subst e;rw[p.out];exact C.out
     ·exact F.out j (by omega))⟩
    case measure=>simp[intOf]
   |some x=>
    obtain⟨neg,r,fr,en,ex⟩:=x;obtain rfl:=c _ _ _ _ _ a;have s:B4b neg r fr en ex=.agg #[.bool neg,.string (ofL (r++fr)),.int .i64 (A3m fr en ex)]:=rfl;rw[s];have y:=hid (show(run t0 l).isSome=true from B2d (b:=suV 1) w (by rw[p.out];omega) (by rw[p.out,a];simp));clear c d f a s;go_wp2;go_ret;rw[<-H.out,y.out];exact⟨rfl,(Fa.trans' ((u.trans t.out).alloc _) (λ_ h=>h.elim))⟩
  ·have J:=z 2 (.string (ofL [46,48])) rfl
   have q:ofL l++ofL [46,48]=ofL (l++suV 2):=A0j l [46,48];have A:(ofL [46,48]).size=2:=rfl;have n:(l++suV 2).length<=1900100:=by rw[List.length_append];show l.length+2<=_;omega
   obtain⟨m,o⟩:∃m,l++suV 2=m:=⟨_,rfl⟩;rw[o]at q n;have p:=hid o;clear o;generalize g:ofL [46,48]=cs at*;clear g z
   go_wp2_with fail
   refine(A9q m _ (by omega)).mono ?_;rintro e L ⟨⟨c,d⟩,f⟩;have t:=hid f;cases a:A9i m with
   |none=>
    obtain⟨K,D,X,rfl⟩:=d a;have C:=hid a;clear c d f a;go_wp2;go_roundw
    case rel=>exact⟨3,by omega,by go_num,hid ((u.trans t.out).alloc _),hid (λj hj=>by
     by_cases e:j=2
     ·subst e;rw[p.out];exact C.out
     ·exact F.out j (by omega))⟩
    case measure=>simp[intOf]
   |some x=>
    obtain⟨neg,r,fr,en,ex⟩:=x;obtain rfl:=c _ _ _ _ _ a;have s:B4b neg r fr en ex=.agg #[.bool neg,.string (ofL (r++fr)),.int .i64 (A3m fr en ex)]:=rfl;rw[s];have y:=hid (show(run t0 l).isSome=true from B2d (b:=suV 2) w (by rw[p.out];omega) (by rw[p.out,a];simp));clear c d f a s;go_wp2;go_ret;rw[<-H.out,y.out];exact⟨rfl,(Fa.trans' ((u.trans t.out).alloc _) (λ_ h=>h.elim))⟩
  ·have J:=z 3 (.string (ofL [48,46,48])) rfl
   have q:ofL l++ofL [48,46,48]=ofL (l++suV 3):=A0j l [48,46,48];have A:(ofL [48,46,48]).size=3:=rfl;have n:(l++suV 3).length<=1900100:=by rw[List.length_append];show l.length+3<=_;omega
   obtain⟨m,o⟩:∃m,l++suV 3=m:=⟨_,rfl⟩;rw[o]at q n;have p:=hid o;clear o;generalize g:ofL [48,46,48]=cs at*;clear g z
   go_wp2_with fail
   refine(A9q m _ (by omega)).mono ?_;rintro e L ⟨⟨c,d⟩,f⟩;have t:=hid f;cases a:A9i m with
   |none=>
    obtain⟨K,D,X,rfl⟩:=d a;have C:=hid a;clear c d f a;go_wp2;go_roundw
    case rel=>exact⟨4,by omega,by go_num,hid ((u.trans t.out).alloc _),hid (λj hj=>by
     by_cases e:j=3
     ·subst e;rw[p.out];exact C.out
     ·exact F.out j (by omega))⟩
    case measure=>simp[intOf]
   |some x=>
    obtain⟨neg,r,fr,en,ex⟩:=x;obtain rfl:=c _ _ _ _ _ a;have s:B4b neg r fr en ex=.agg #[.bool neg,.string (ofL (r++fr)),.int .i64 (A3m fr en ex)]:=rfl;rw[s];have y:=hid (show(run t0 l).isSome=true from B2d (b:=suV 3) w (by rw[p.out];omega) (by rw[p.out,a];simp));clear c d f a s;go_wp2;go_ret;rw[<-H.out,y.out];exact⟨rfl,(Fa.trans' ((u.trans t.out).alloc _) (λ_ h=>h.elim))⟩
  ·have J:=z 4 (.string (ofL [101,48])) rfl
   have q:ofL l++ofL [101,48]=ofL (l++suV 4):=A0j l [101,48];have A:(ofL [101,48]).size=2:=rfl;have n:(l++suV 4).length<=1900100:=by rw[List.length_append];show l.length+2<=_;omega
   obtain⟨m,o⟩:∃m,l++suV 4=m:=⟨_,rfl⟩;rw[o]at q n;have p:=hid o;clear o;generalize g:ofL [101,48]=cs at*;clear g z
   go_wp2_with fail
   refine(A9q m _ (by omega)).mono ?_;rintro e L ⟨⟨c,d⟩,f⟩;have t:=hid f;cases a:A9i m with
   |none=>
    obtain⟨K,D,X,rfl⟩:=d a;have C:=hid a;clear c d f a;go_wp2;go_roundw
    case rel=>exact⟨5,by omega,by go_num,hid ((u.trans t.out).alloc _),hid (λj hj=>by
     by_cases e:j=4
     ·subst e;rw[p.out];exact C.out
     ·exact F.out j (by omega))⟩
    case measure=>simp[intOf]
   |some x=>
    obtain⟨neg,r,fr,en,ex⟩:=x;obtain rfl:=c _ _ _ _ _ a;have s:B4b neg r fr en ex=.agg #[.bool neg,.string (ofL (r++fr)),.int .i64 (A3m fr en ex)]:=rfl;rw[s];have y:=hid (show(run t0 l).isSome=true from B2d (b:=suV 4) w (by rw[p.out];omega) (by rw[p.out,a];simp));clear c d f a s;go_wp2;go_ret;rw[<-H.out,y.out];exact⟨rfl,(Fa.trans' ((u.trans t.out).alloc _) (λ_ h=>h.elim))⟩
  ·have y:=hid (F4a (l:=l) (λj hj=>F.out j hj))
   clear z;go_wp2;go_ret;rw[<-H.out,y.out];exact⟨rfl,Fa.trans u.out⟩
theorem E7r {l:LU8} {t:Tk} {neg:Bool} {b fr:LU8} {en:Bool} {ex:LU8} {r:Nat} (w:World) (f:l.length<=1000000000000000) (hr:run t0 l=some t) (d:A9i l=some (neg,b,fr,en,ex)) (h:A1t (num (dv (b++fr))) (D7j fr en ex) r):A8b t.st/\A3n t=A2z neg r:=by
 obtain⟨k,j,c,a,i,g,e⟩:=B5f w f d;rw[hr]at c;cases c;refine⟨a,?_⟩;rw[C0j a (C0m hr).1 g,i,h.uniq e]
theorem E7s {l:LU8} {t:Tk} (hr:run t0 l=some t):A7c l=decide ((A3n t).2=6):=by
 unfold A7c;rw[hr]
def C2f (t:Tk):Bool:=decide (6<=t.st)&& !t.pn
theorem F5x {t a:Tk} {c:UInt8} (h:nxt t c=some a):beh t.st c≠0/\a=A4q t c (beh t.st c):=by
 unfold nxt at h;split at h
 ·cases h
 ·rename_i hb
  cases h;exact⟨hb,rfl⟩
theorem G4s {st:Nat} {c:UInt8} (b:c=101\/c=69) (a:beh st c≠0):beh st c=6:=by
 unfold beh at a ⊢;rcases b with rfl|rfl
 ·repeat' split
  all_goals simp_all[isD]
 ·repeat' split
  all_goals simp_all[isD]
theorem E7t {st:Nat} {c:UInt8} (a:¬(c=101\/c=69)):beh st c≠6:=by
 unfold beh
 repeat' split
 all_goals first
  |omega
  |(rename_i h;exact absurd h.2 a)
theorem F4b (t:Tk) (c:UInt8) (k:Nat):(A4q t c k).pn=if k=7 then decide (c=45)else t.pn:=by
 unfold A4q;by_cases e:k=1
 ·simp[e]
 by_cases f:k=2\/k=3
 ·rcases f with rfl|rfl<;>simp
 by_cases a:k=5
 ·simp[a]
 by_cases d:k=7
 ·simp[d]
 by_cases b:k=8
 ·simp[b]
 simp[e,f,a,d,b]
def G3c (t:Tk):Prop:=t.st<=6->t.pn=false
theorem G4t:G3c t0:=λ_=>rfl
theorem D6h {st:Nat} {c:UInt8}:(beh st c=6->st<=5)/\(beh st c=7->st=6/\(c=43\/c=45))/\(beh st c=8->6<=st/\st<=8/\isD c=true)/\(beh st c≠0->beh st c<=5->st<=5):=by
 refine⟨λh=>?_,λh=>?_,λh=>?_,λh1 h2=>?_⟩
 all_goals
  unfold beh at*
  repeat' split at*
  all_goals first
   |omega
   |(simp_all;done)
   |(simp_all;omega)
theorem F4c {t b:Tk} {x:UInt8} (r:nxt t x=some b) (f:G3c t):
 G3c b/\(x=101\/x=69->C2f b=true/\A3b b=false)/\(¬(x=101\/x=69)->C2f t=true->x=45->C2f b=false/\A3b b=false)/\
 (¬(x=101\/x=69)->C2f t=true->x≠45->C2f b=true/\A3b b=oor b.D b.at/\(b.st=8\/(b.st=7/\x=43)))/\(¬(x=101\/x=69)->C2f t=false->C2f b=false/\A3b b=false):=by
 obtain⟨g,rfl⟩:=F5x r;obtain⟨q,l,p,m⟩:= @D6h t.st x;have y:=E1p t.st x;have n:=A9e t x (beh t.st x);have i:=F4b t x (beh t.st x);generalize e:beh t.st x=k at*;generalize A4q t x k=b at*;unfold G3c C2f A3b at*;rw[n,i];refine⟨λh=>?_,λhe=>?_,λhe hg hx=>?_,λhe hg hx=>?_,λhe hg=>?_⟩
 ·rw[if_neg (by omega)]
  by_cases c:k=6
  ·exact f (by have:=q c;omega)
  ·exact f (by have:=m g (by omega);omega)
 ·have c:k=6:=by rw[<-e];exact G4s he (by rw[e];exact g)
  have:=f (by have:=q c;omega);rw[if_neg (by omega),this,c];exact⟨rfl,rfl⟩
 ·simp only[Bool.and_eq_true,decide_eq_true_eq,Bool.not_eq_true']at hg
  have a:k=7\/k=8:=by
   have:= @E7t t.st x he;rw[e]at this;have v:=m g;omega
  rcases a with a|a
  ·rw[if_pos a,hx]
   simp
  ·exfalso
   have:=(p a).2.2;rw[hx]at this;exact absurd this (by decide)
 ·simp only[Bool.and_eq_true,decide_eq_true_eq,Bool.not_eq_true']at hg
  have a:k=7\/k=8:=by
   have:= @E7t t.st x he;rw[e]at this;have v:=m g;omega
  rcases a with a|a
  ·have j:x=43:=by
    rcases(l a).2 with h|h
    ·exact h
    ·exact absurd h hx
   rw[if_pos a,a,dcF hx];exact⟨rfl,by simp,.inr ⟨rfl,j⟩⟩
  ·rw[if_neg (by omega),a,hg.2]
   exact⟨rfl,by simp,.inl rfl⟩
 ·have o:= @E7t t.st x he
  rw[e]at o;by_cases c:6<=t.st
  ·have d:t.pn=true:=by
    cases s:t.pn with
    |true=>rfl
    |false=>rw[s,dcT c]at hg;cases hg
   have a:k≠7:=λh=>by
    have:=f (by have:=(l h).1;omega);rw[d]at this;cases this
   rw[if_neg a,d];simp
  ·have u:k<=5:=by
    by_cases a:k=7
    ·have:=(l a).1;omega
    ·by_cases w:k=8
     ·have:=(p w).1;omega
     ·omega
   rw[dcF (show¬6<=k by omega),dcF (show¬7<=k by omega)];exact⟨rfl,rfl⟩
theorem E7u {s:LU8} {t:Tk} (w:World) (l:s.length<=100000000) (hr:run t0 s=some t) (h:t.st=8\/t.st=7):(B6n s&&A7c (if t.st=7 then s++[48]else s))=oor t.D t.at:=by
 have k:oor t.D t.at=true->B6n s=true:=λb=>by
  refine G2j (t:=t0) rfl (Nat.zero_le _) hr ?_;intro g;rw[g]at b;simp[oor]at b
 have i:A7c (if t.st=7 then s++[48]else s)=oor t.D t.at:=by
  by_cases d:t.st=7
  ·rw[if_pos d]
   have f:beh t.st 48=8:=by rw[d];decide
   have a:run t0 (s++[48])=some (A4q t 48 8):=by
    rw[B7x 48 hr];unfold nxt;rw[f];rfl
   have c:t.pw=0:=(C0m hr).2 (by omega);rw[B6m w (by rw[List.length_append];simp;omega) a (by rw[A9e];exact .inr (.inr (.inr rfl)))];have j:(A4q t 48 8).D=t.D:=by simp[A4q]
   have e:(A4q t 48 8).at=t.at:=by
    unfold Tk.at A4q;simp[c]
   rw[j,e]
  ·rw[if_neg d]
   exact B6m w (by omega) hr (by unfold A8b;omega)
 rw[i];cases b:oor t.D t.at with
 |true=>rw[k b];rfl
 |false=>simp
end Go.Proofs.YtmkkibaacclhnaaGreatDoor
