/-
  Part Sj.
-/
import Derived.Test.YtmkkibaacclhnaaGreatDoorCde
import Derived.Test.YtmkkibaacclhnaaGreatDoorBo
import Derived.Test.YtmkkibaacclhnaaGreatDoorCb
import Derived.Test.YtmkkibaacclhnaaGreatDoorWw
import Derived.Test.YtmkkibaacclhnaaGreatDoorBn
import Derived.Test.YtmkkibaacclhnaaGreatDoorWq
import Derived.Deep.CutBlock
namespace Go.Proofs.YtmkkibaacclhnaaGreatDoor
open Go.RowKit
set_option maxRecDepth 100000
set_option maxHeartbeats 40000000
theorem F3v (l:LU8):∃z,l=List.replicate z 48++A1g l/\(A1g l).head? ≠some 48:=by
 induction l with
 |nil=>exact⟨0,rfl,by simp[A1g]⟩
 |cons c l ih=>
  by_cases h:c=48
  ·obtain⟨z,e,b⟩:=ih
   have a:A1g (c::l)=A1g l:=by unfold A1g;rw[List.dropWhile_cons,if_pos (by simp[h])]
   rw[a];exact⟨z+1,by rw[List.replicate_succ,List.cons_append,<-e,h],b⟩
  ·have a:A1g (c::l)=c::l:=by unfold A1g;rw[List.dropWhile_cons,if_neg (by simp[h])]
   rw[a];exact⟨0,rfl,by simpa using h⟩
theorem F3w (l:LU8):∃k,l=A2e l++List.replicate k 48:=by
 refine C8b (P:=λl=>∃k,l=A2e l++List.replicate k 48) ⟨0,rfl⟩ ?_ l;intro a c ⟨k,e⟩;by_cases h:c=48
 ·subst h
  rw[B6i];refine⟨k+1,?_⟩;rw[List.replicate_succ',<-List.append_assoc,<-e]
 ·rw[C6d _ _ h]
  exact⟨0,by simp⟩
theorem E7m {l:LU8} (h:A4h l) (X:Int):B1q (num (dv l)) X (num (dv (A2e (A1g l)))) (X+((A1g l).length:Int)-((A2e (A1g l)).length:Int))/\A4h (A2e (A1g l))/\(A2e (A1g l)).head? ≠some 48:=by
 obtain⟨z,e,f⟩:=F3v l;obtain⟨k,a⟩:=F3w (A1g l)
 have i:num (dv l)=num (dv (A1g l)):=by
  conv=>lhs;rw[e,A4d,A2s,D4f,A8m]
  omega
 have j:num (dv (A1g l))=num (dv (A2e (A1g l)))*p10 k:=by
  conv=>lhs;rw[a,A4d,A2s,D4f,A8m,List.length_replicate]
  omega
 have m:(A1g l).length=(A2e (A1g l)).length+k:=by
  conv=>lhs;rw[a,List.length_append,List.length_replicate]
 have d:A4h (A1g l):=λc hc=>h c (by rw[e];exact List.mem_append_right _ hc)
 refine⟨?_,λc hc=>d c (by rw[a];exact List.mem_append_left _ hc),?_⟩
 ·rw[i,j,m,show X+((A2e (A1g l)).length+k:Nat)-((A2e (A1g l)).length:Int)=X+k by omega]
  have:=B1q.shift (num (dv (A2e (A1g l)))) k (X+k);rw[show X+(k:Int)-k=X by omega]at this;exact this.symm
 ·intro b
  cases g:A2e (A1g l)with
  |nil=>rw[g]at b;cases b
  |cons c r=>
   rw[g]at b a;rw[a]at f;exact f (by simpa using b)
theorem F3x (A B m:Nat):A6d (A*2^(-(((A0w m).2:Int)-1074-1)).toNat) (B*(2*(A0w m).1+1)*2^(((A0w m).2:Int)-1074-1).toNat)=A6d (2*(A*p2 1074)) (mid m*B):=by
 have d:=B1a m;have c:=B1n m;have b:=B4h m;rw[B2p A (B*(2*(A0w m).1+1)) (A0w m).2 1075 _ (by omega)]
 have a:B*(2*(A0w m).1+1)*p2 (A0w m).2=mid m*B:=by
  rw[b,d,c,Nat.mul_comm B,Nat.mul_right_comm,Nat.add_mul,Nat.one_mul,Nat.mul_assoc 2]
 rw[a,D2r,Nat.mul_left_comm A 2]
theorem E7n {N r A B:Nat} {X:Int} (m:A=N*p10 X.toNat) (j:B=p10 (-X).toNat) (hr:r<9218868437227405312) (n:V r*B<=A*p2 1074) (i:r+1=9218868437227405312\/A*p2 1074<V (r+1)*B):
 (¬(mid r*B<2*(A*p2 1074)\/(mid r*B=2*(A*p2 1074)/\r % 2=1))->A1t N X r)/\
 ((mid r*B<2*(A*p2 1074)\/(mid r*B=2*(A*p2 1074)/\r % 2=1))->A1t N X (r+1)):=by
 have e:N*pP X=A*p2 1074:=by rw[m];unfold pP;rw[Nat.mul_assoc]
 have f:0<B:=by rw[j];exact A0v _
 unfold A1t A3u Rnd;rw[e,<-j];generalize A*p2 1074=x at*;constructor
 ·intro h
  refine .inl ⟨hr,?_,?_⟩
  ·by_cases l:r=0
   ·exact .inl l
   ·right;left
    have a:=F6a (show r-1<r by omega);have b:mid (r-1)<2*V r:=by unfold mid;rw[show r-1+1=r by omega];omega
    have c:mid (r-1)*B<2*V r*B:=Nat.mul_lt_mul_of_pos_right b f;rw[Nat.mul_assoc]at c;omega
  ·rcases Nat.lt_trichotomy (2*x) (mid r*B)with c|c|c
   ·exact .inl c
   ·right
    refine⟨c,?_⟩;rcases Nat.mod_two_eq_zero_or_one r with d|d
    ·exact d
    ·exact absurd (Or.inr ⟨c.symm,d⟩) h
   ·exact absurd (Or.inl c) h
 ·intro h
  rcases Nat.lt_or_ge (r+1) 9218868437227405312 with k|k
  ·refine .inl ⟨k,.inr ?_,.inl ?_⟩
   ·rw[Nat.add_sub_cancel]
    rcases h with h|⟨h,d⟩
    ·exact .inl h
    ·exact .inr ⟨h,by omega⟩
   ·have i:=i.resolve_left (by omega)
    have a:=C2n (r+1);have b:2*V (r+1)<mid (r+1):=by unfold mid;omega
    have c:2*V (r+1)*B<mid (r+1)*B:=Nat.mul_lt_mul_of_pos_right b f;rw[Nat.mul_assoc]at c;omega
  ·have g:r=9218868437227405311:=by omega
   refine .inr ⟨by omega,?_⟩;rw[g]at h;rcases h with h|⟨h,d⟩<;>omega
def F3y (N:Nat) (X:Int) (e:Ending):Prop:=
 ∃r,A1t N X r/\((r<9218868437227405312/\e=.returned (.tuple #[.int .u64 (r:Int),.bool true]))\/(r=9218868437227405312/\∃v:Int,e=.returned (.tuple #[.int .u64 v,.bool false])))
theorem F9a (a b:Nat):0<=A6d a b↔b<=a:=by
 have h:=E5g a b;constructor
 ·intro d
  rcases Nat.lt_or_ge a b with c|c
  ·have:=h.2 c;omega
  ·exact c
 ·intro d
  rcases Int.lt_or_le (A6d a b) 0 with c|c
  ·have:=h.1 c;omega
  ·exact c
theorem B7j (M:Bool) (l:LU8) (X:Int) (w:World) (hl:l.length<=2000000) (hA:A4h l) (c5: -1200000000000<=X) (c6:X<=1200000000000):
 Calls Tryz.prog 190 #[.agg #[.bool M,.string (ofL l),.int .i64 X]] w λe w'=>F3y (num (dv l)) X e/\Fr (λ_=>False) w w':=by
 obtain⟨hS,Z,a1⟩:=E7m hA X;have HL:=hid (λw=>B5d M l X w (by omega) (by omega) (by omega));have c7:=C9n l;have b6:=E5j (A1g l);obtain⟨D,hD⟩:∃D,A2e (A1g l)=D:=⟨_,rfl⟩;obtain⟨Y,hY⟩:∃Y,X+((A1g l).length:Int)-((A2e (A1g l)).length:Int)=Y:=⟨_,rfl⟩;have d1: -1200000000000<=Y/\Y<=1200002000000:=by omega
 rw[hY,hD]at hS;rw[hD]at Z a1 b6;have d0:D.length<=2000000:=by omega
 have HS:=hid hS;have S:=hid Z;have c3:=hid (show D.head? =some 48↔False from⟨a1,False.elim⟩);rw[hY,hD]at HL;have d5:=A0c D;clear hS Z a1 hD hY hA c7 b6 hl c5 c6;go_enter Tryz.func190,Tryz.ntmps190
 go_wp2_with fail
 refine(HL.out _).mono ?_;rintro e w1 ⟨rfl,a0⟩;have I:=hid ((A6e.new w (.bool M) (.string (ofL l)) (.int .i64 X)).fr a0);have F1:=hid (((Fr.refl (λ_=>False) w).alloc _).trans a0);have d2:w.heap.size<w1.heap.size:=lt_of_block I.out;have c0:=I.c.1;have c1:=I.c.2.1;have c2:=I.c.2.2;have f0:=A0u (j:=0) I.out;have f1:=A0u (j:=1) I.out;have f2:=A0u (j:=2) I.out;clear a0 HL
 go_upto_region 2 with fail
 have T2:=hid (show A6e (((w1.setCell ⟨w.heap.size,0,none⟩ (.bool M)).setCell ⟨w.heap.size,1,none⟩ (.string (ofL D))).setCell ⟨w.heap.size,2,none⟩ (.int .i64 Y)) w.heap.size (.bool M) (.string (ofL D)) (.int .i64 Y)from A1y (A1s (A2u I.out)));have F2:=hid (((F1.setCell (p:=⟨w.heap.size,0,none⟩) (.inr (Nat.le_refl _)) (.bool M)).setCell (p:=⟨w.heap.size,1,none⟩) (.inr (Nat.le_refl _)) (.string (ofL D))).setCell (p:=⟨w.heap.size,2,none⟩) (.inr (Nat.le_refl _)) (.int .i64 Y));clear c0 c1 c2 f0 f1 f2 I F1;generalize ((w1.setCell ⟨w.heap.size,0,none⟩ (.bool M)).setCell ⟨w.heap.size,1,none⟩ (.string (ofL D))).setCell ⟨w.heap.size,2,none⟩ (.int .i64 Y)=W2 at*;have c0:=T2.c.1;have c1:=T2.c.2.1;have c2:=T2.c.2.2;by_cases J:D=[]
 ·subst J
  have c8:(ofL []).toList.isEmpty=true:=by rw[A0y];rfl
  go_wp2;go_ret2;exact⟨⟨0,(A1t.zero _).same HS.symm,.inl ⟨by omega,rfl⟩⟩,F2.out⟩
 ·have c8:(ofL D).toList.isEmpty=false:=by rw[A0y];cases D with|nil=>exact absurd rfl J|cons=>rfl
  have b9:=hid (show D=[]↔False from⟨J,False.elim⟩);clear J;by_cases d4:(D.length:Int)+Y< -400
  ·go_wp2
   go_ret2;exact⟨⟨0,(A1t.small (A7i _ S.digs) (by rw[A3e];omega)).same HS.symm,.inl ⟨by omega,rfl⟩⟩,F2.out⟩
  ·by_cases d3:400<(D.length:Int)+Y
   ·have HB:=hid (A1t.big (x:=Y) (E2m D S.out b9.1 c3.1) (by omega))
    go_wp2;go_ret2;exact⟨⟨_,HB.same HS.symm,.inr ⟨rfl,_,rfl⟩⟩,F2.out⟩
   ·go_wp2_with fail
    refine(E5f M D Y _ (by omega) S.out (by omega) (by omega)).mono ?_;rintro e w3 ⟨fv,rfl,a3,a9⟩;obtain⟨A,hA⟩:∃A,num (dv D)*p10 Y.toNat=A:=⟨_,rfl⟩;obtain⟨B,hB⟩:∃B,p10 (-Y).toNat=B:=⟨_,rfl⟩;rw[hA,hB]at a3;have R:=hid (And.intro hA hB);have a5:=hid a3;obtain⟨va,vb,xs,ys,rfl,b1,b2,b3⟩:=a3;obtain⟨N,P,rfl⟩:=A1e b1;obtain⟨O,Q,rfl⟩:=A1e b2;generalize xs.length=na at*;generalize ys.length=nb at*;have F3:=hid (F2.trans a9);clear a9 F2 hA hB b1 b2 b3 c0 c1 c2 T2
    go_upto_block 0 with fail
    have T5:=hid (E0t.new w3 (.slice N na P) (.slice O nb Q));have G5:=hid (a5.fr ((Fr.refl _ w3).alloc (.cells #[.slice N na P,.slice O nb Q] 228)));have F5:=hid (F3.alloc (.cells #[.slice N na P,.slice O nb Q] 228));clear a5 F3;generalize w3.alloc (.cells #[.slice N na P,.slice O nb Q] 228)=W5 at*;generalize w3.heap.size=B5 at*
    go_cut [6] (λlv wc=>∃f:Nat,lv=.int .u64 (f:Int)/\Hid (f<9218868437227405312)/\Hid (V f*B<=A*p2 1074)/\Hid (f+1=9218868437227405312\/A*p2 1074<V (f+1)*B)/\Hid (E0t wc B5 (.slice N na P) (.slice O nb Q))/\Hid (A7b wc (.agg #[.slice N na P,.slice O nb Q]) A B 9000000)/\Hid (Fr (λ_=>False) w wc))
    case first=>
     go_wp2;have a7:=hid (show V 0*B<=A*p2 1074 by rw[F9z,Nat.zero_mul];exact Nat.zero_le _)
     go_loopw [6,7] (λlv tv wr=>∃f u:Nat,lv=.int .u64 (f:Int)/\tv=.int .u64 (u:Int)/\Hid (f<u/\u<=9218868437227405312)/\Hid (V f*B<=A*p2 1074)/\Hid (u=9218868437227405312\/A*p2 1074<V u*B)/\Hid (E0t wr B5 (.slice N na P) (.slice O nb Q))/\Hid (A7b wr (.agg #[.slice N na P,.slice O nb Q]) A B 9000000)/\Hid (Fr (λ_=>False) w wr)) (λlv tv _=>(intOf tv-intOf lv).toNat)
     case atStart=>exact⟨0,9218868437227405312,rfl,rfl,hid (by omega),a7,hid (.inl rfl),T5,G5,F5⟩
     case round=>
      clear T5 G5 F5 a7;obtain⟨f,u,rfl,rfl,t,K,L,T,G,F⟩:=hrel;obtain⟨d,hd⟩:∃d:Nat,d=u-f:=⟨_,rfl⟩
      have c9:IntKind.u64.wrap ((u:Int)-(f:Int))=(d:Int):=by
       have:=t.out;rw[show(u:Int)-(f:Int)=(d:Int) by omega];exact IntWalk.u64_in _ ⟨by omega,by omega⟩
      have HD:=hid hd;clear hd;by_cases h1:1<d
      ·obtain⟨h,hh⟩:∃h:Nat,h=d/2:=⟨_,rfl⟩
       obtain⟨i,b5⟩:∃i:Nat,i=f+h:=⟨_,rfl⟩
       have hq:IntKind.u64.wrap ((d:Int)/2)=(h:Int):=by
        have:=t.out;have:=HD.out;rw[show(d:Int)/2=(h:Int) by omega];exact IntWalk.u64_in _ ⟨by omega,by omega⟩
       have b0:IntKind.u64.wrap ((f:Int)+(h:Int))=(i:Int):=by
        have:=t.out;have:=HD.out;rw[show(f:Int)+(h:Int)=(i:Int) by omega];exact IntWalk.u64_in _ ⟨by omega,by omega⟩
       have HM:=hid (And.intro hh b5);clear hh b5;have k0:=T.c.1;have k1:=T.c.2;have q:=hid (show i<9218868437227405312/\f<i/\i<u by have:=t.out;have:=HD.out;have:=HM.out;omega);obtain⟨n,hn⟩:∃n,(A0w i).1=n:=⟨_,rfl⟩;obtain⟨E,hE⟩:∃E,(A0w i).2=E:=⟨_,rfl⟩;have g:=hid (And.intro hn hE);clear hn hE
       go_wp2_with fail
       refine(B1z i _ (by have:=q.out;omega)).mono ?_;rintro e w6 ⟨rfl,rfl⟩;rw[g.1,g.2]
       go_wp2_with fail
       refine(F7y _ _ _ 9000000 i n E _ _ _ q.1 g.1 g.2 rfl rfl (by omega) G.out).mono ?_;rintro e w7 ⟨rfl,m⟩;have T7:=hid (T.fr m);have G7:=hid (G.fr m);have F7:=hid (F.trans m);obtain⟨k,s⟩:∃k,A6d (A*p2 1074) (B*V i)=k:=⟨_,rfl⟩;have a6:=hid (show 0<=k↔V i*B<=A*p2 1074 by rw[<-s,Nat.mul_comm (V i) B];exact F9a _ _);rw[s];clear s m T G F k0 k1;by_cases hc:0<=k
       ·have HN:=hid (a6.1 hc)
        go_wp2;go_roundw
        case rel=>exact⟨i,u,rfl,rfl,hid (by have:=t.out;have:=q.out;omega),HN,L,T7,G7,F7⟩
        case measure=>have:=t.out;have:=q.out;simp[intOf];omega
       ·have HN:=hid (show A*p2 1074<V i*B from Nat.lt_of_not_le λh=>hc (a6.2 h))
        go_wp2;go_roundw
        case rel=>exact⟨f,i,rfl,rfl,hid (by have:=t.out;have:=q.out;omega),K,hid (.inr HN.out),T7,G7,F7⟩
        case measure=>have:=t.out;have:=q.out;simp[intOf];omega
      ·have a8:=hid (show u=f+1 by have:=t.out;have:=HD.out;omega)
       go_wp2;go_meet;refine⟨f,rfl,hid ?_,K,hid ?_,T,G,F⟩
       ·have:=t.out;have:=a8.out;omega
       ·rw[<-a8.out];exact L.out
    case rest=>
     obtain⟨f,rfl,o,b7,b8,T,G,F⟩:=hcut;clear T5 G5 F5;obtain⟨n,hn⟩:∃n,(A0w f).1=n:=⟨_,rfl⟩;obtain⟨E,hE⟩:∃E,(A0w f).2=E:=⟨_,rfl⟩;have t:=B5c f o.out;rw[hn,hE]at t;have g:=hid (And.intro hn hE);clear hn hE;have k0:=T.c.1;have k1:=T.c.2
     go_wp2_with fail
     refine(B1z f _ (by have:=o.out;omega)).mono ?_;rintro e w6 ⟨rfl,rfl⟩;rw[g.1,g.2]
     go_wp2_with fail
     refine(A5j _ A B 9000000 _ (2*n+1) _ _ (by omega) (by omega) (by omega) (by omega) (by omega) G.out).mono ?_;rintro e w7 ⟨rfl,m⟩;have F7:=hid (F.trans m);have a4:=F3x A B f;rw[g.1,g.2]at a4;rw[a4];have y:=hid (E7n R.1.symm R.2.symm o.out b7.out b8.out);have W:=hid (C6j (2*(A*p2 1074)) (mid f*B));have U:=hid (D2q (2*(A*p2 1074)) (mid f*B));obtain⟨k,s⟩:∃k,A6d (2*(A*p2 1074)) (mid f*B)=k:=⟨_,rfl⟩;rw[s]at W U ⊢;obtain⟨UP,a2⟩:∃UP:Prop,(mid f*B<2*(A*p2 1074)\/(mid f*B=2*(A*p2 1074)/\f % 2=1))=UP:=⟨_,rfl⟩
     have H:=hid (show UP↔(0<k\/(k=0/\f % 2=1)) by
      rw[<-a2,W.out,U.out,eq_comm (a:=2*(A*p2 1074))])
     rw[a2]at y;clear a4 s a2 m T G F k0 k1 W U b7 b8 R
     go_upto_region 19 with fail
     go_cut [79] (λb wc=>b=.bool (decide (0<k\/(k=0/\f % 2=1)))/\wc=w7)
     case first=>
      by_cases h1:0<k
      ·go_wp2
       go_meet;exact⟨by rw[dcT (.inl h1)],rfl⟩
      ·by_cases h0:k=0
       ·subst h0
        rcases Nat.mod_two_eq_zero_or_one f with h2|h2
        ·have hq:((f:Int) % 2==1)=false:=bqF (by omega)
         have H2:=hid h2;clear h2;go_wp2;go_meet;exact⟨by have:=H2.out;rw[dcF (by omega)],rfl⟩
        ·have hq:((f:Int) % 2==1)=true:=beq_iff_eq.2 (by omega)
         have H2:=hid h2;clear h2;go_wp2;go_meet;exact⟨by simp[H2.out],rfl⟩
       ·go_wp2
        go_meet;exact⟨by rw[dcF (by omega)],rfl⟩
     case rest=>
      obtain⟨rfl,rfl⟩:=hcut;by_cases hu:0<k\/(k=0/\f % 2=1)
      ·have v:=hid (y.2 (H.2 hu))
       rw[dcT hu];clear hu H y;obtain⟨r,hr⟩:∃r:Nat,r=f+1:=⟨_,rfl⟩
       have b0:IntKind.u64.wrap ((f:Int)+1)=(r:Int):=by
        have:=o.out;rw[show(f:Int)+1=(r:Int) by omega];exact IntWalk.u64_in _ ⟨by omega,by omega⟩
       rw[<-hr]at v;have c4:=hid hr;clear hr;by_cases C:r<9218868437227405312
       ·have b4:decide ((r:Int)<9218868437227405312)=true:=dcT (by omega)
        have z:=hid C;clear C;go_wp2;go_ret2;exact⟨⟨r,v.same HS.symm,.inl ⟨z.out,rfl⟩⟩,F7.out⟩
       ·have b4:decide ((r:Int)<9218868437227405312)=false:=dcF (by omega)
        have z:=hid (show r=9218868437227405312 by have:=o.out;have:=c4.out;omega);clear C;go_wp2;go_ret2;exact⟨⟨r,v.same HS.symm,.inr ⟨z.out,_,rfl⟩⟩,F7.out⟩
      ·have v:=hid (y.1 (λh=>hu (H.1 h)))
       rw[dcF hu];clear hu H y;have b4:decide ((f:Int)<9218868437227405312)=true:=dcT (by have:=o.out;omega);go_wp2;go_ret2;exact⟨⟨f,v.same HS.symm,.inl ⟨o.out,rfl⟩⟩,F7.out⟩
def A3m (fr:LU8) (en:Bool) (ex:LU8):Int:=(if en then-((min (num (dv ex)) 1099511627776:Nat):Int)else((min (num (dv ex)) 1099511627776:Nat):Int))-(fr.length:Int)
theorem C4a {l fr ex:LU8} {en:Bool} {r:Nat} (d:A4h l) (g:l.length<=2000000) (f:fr.length<=2000000) (h:A1t (num (dv l)) (A3m fr en ex) r):A1t (num (dv l)) (D7j fr en ex) r:=by
 unfold A3m at h;unfold D7j;have b:=A7i _ d.digs;rw[A3e]at b;generalize num (dv ex)=q at*;generalize num (dv l)=N at*;by_cases e:q<=1099511627776
 ·rwa[Nat.min_eq_left e]at h
 ·rw[Nat.min_eq_right (by omega)]at h
  by_cases c:N=0
  ·subst c
   have:=h.uniq (A1t.zero _);subst this;exact A1t.zero _
  ·have a:p10 0<=N:=by show 1<=N;omega
   cases en
   ·simp only[Bool.false_eq_true,if_false]at h ⊢
    have:=h.uniq (A1t.big a (by omega));subst this;exact A1t.big a (by omega)
   ·simp only[if_true]at h ⊢
    have:=h.uniq (A1t.small b (by omega));subst this;exact A1t.small b (by omega)
def E7p (l:LU8) (e:Ending):Prop:=
 (A9i l=none/\e=.returned (.tuple #[.int .u64 0,.int .i64 3]))\/
 ∃neg wh fr en ex r,A9i l=some (neg,wh,fr,en,ex)/\A1t (num (dv (wh++fr))) (D7j fr en ex) r/\e=.returned (.tuple #[.int .u64 ((A2z neg r).1:Nat),.int .i64 ((A2z neg r).2:Nat)])
theorem E0c (neg:Bool):A2z neg 9218868437227405312=(0,6):=if_pos (Nat.le_refl _)
theorem C4b {r:Nat} (neg:Bool) (h:r<9218868437227405312):A2z neg r=(if neg then r+9223372036854775808 else r,0):=if_neg (by omega)
theorem F5w {l a fr ex:LU8} {neg en:Bool} (h:Pc l neg a fr en ex):a.length+fr.length<=l.length:=by
 obtain⟨b,s,_,_,rfl⟩:=h.l;have:fr.length<=(frP fr).length:=by unfold frP;split<;>simp_all
 simp only[List.length_append];omega
theorem E0d (l:LU8) (w:World) (I:l.length<=2000000):
 Calls Tryz.prog 149 #[.string (ofL l)] w λe w'=>E7p l e/\Fr (λ_=>False) w w':=by
 have p:=hid I;clear I;go_enter Tryz.func149,Tryz.ntmps149
 go_wp2_with fail
 refine(A9q l _ (by have:=p.out;omega)).mono ?_;rintro e K ⟨⟨i,j⟩,d⟩;have E:=hid d;cases h:A9i l with
 |none=>
  obtain⟨m,D,X,rfl⟩:=j h;have n:=hid h;clear i j d h;go_wp2;go_ret2;exact⟨.inl ⟨n.out,rfl⟩,E.alloc _⟩
 |some x=>
  obtain⟨neg,k,fr,en,ex⟩:=x;obtain rfl:=i _ _ _ _ _ h;have n:=hid h;have a:=E2q h;have A:=F5w a;have G:B4b neg k fr en ex=.agg #[.bool neg,.string (ofL (k++fr)),.int .i64 (A3m fr en ex)]:=rfl;rw[G]
  have B: -1100000000000<=A3m fr en ex/\A3m fr en ex<=1100000000000:=by
   have:=p.out;have:=Nat.min_le_right (num (dv ex)) 1099511627776;unfold A3m;cases en
   ·simp only[Bool.false_eq_true,if_false];omega
   ·simp only[if_true];omega
  have F:=hid (λw=>B7j neg (k++fr) (A3m fr en ex) w (by have:=p.out;rw[List.length_append];omega) (a.w.1.append a.f) (by omega) (by omega));have o:=hid (λr=>C4a (r:=r) (fr:=fr) (en:=en) (ex:=ex) (a.w.1.append a.f) (by have:=p.out;rw[List.length_append];omega) (by have:=p.out;omega));generalize C:A3m fr en ex=X at*;clear i j d h G B a A C
  go_wp2_with fail
  refine(F.out _).mono ?_;rintro e M ⟨⟨r,hr,z⟩,g⟩;have J:=hid ((A6e.new K (.bool neg) (.string (ofL (k++fr))) (.int .i64 X)).fr g);have t:=hid ((E.alloc _).trans g);have L:=J.c.1;have u:=hid (o.out r hr);clear hr g F o;rcases z with⟨q,rfl⟩|⟨rfl,v,rfl⟩
  ·have b:=hid q
   clear q;cases neg
   ·go_wp2
    go_ret2;exact⟨.inr ⟨false,k,fr,en,ex,r,n.out,u.out,by rw[C4b false b.out];rfl⟩,t.out⟩
   ·have H:IntKind.u64.wrap ((r:Int)+9223372036854775808)=((r+9223372036854775808:Nat):Int):=by
     have:=b.out;rw[show(r:Int)+9223372036854775808=((r+9223372036854775808:Nat):Int) by omega];exact IntWalk.u64_in _ ⟨by omega,by omega⟩
    generalize s:r+9223372036854775808=rr at*;have y:=hid s;clear s;go_wp2;go_ret2;exact⟨.inr ⟨true,k,fr,en,ex,r,n.out,u.out,by rw[C4b true b.out,if_pos rfl,y.out];rfl⟩,t.out⟩
  ·go_wp2
   go_ret2;exact⟨.inr ⟨neg,k,fr,en,ex,_,n.out,u.out,by rw[E0c];rfl⟩,t.out⟩
theorem C4c {l:LU8} (h:A9i l=none):A7c l=false:=E5x (λ_ ht=>B8i h ht)
theorem E0e {l:LU8} {neg:Bool} {b fr:LU8} {en:Bool} {ex:LU8} {r:Nat} (w:World) (a:l.length<=1000000000000000) (g:A9i l=some (neg,b,fr,en,ex)) (hr:A1t (num (dv (b++fr))) (D7j fr en ex) r):A7c l=decide (9218868437227405312<=r):=by
 obtain⟨t,h,c,d,_,e,f⟩:=B5f w a g;rw[B6m w a c d,D5j e,hr.uniq f]
theorem C1c (l:LU8) (w:World) (J:l.length<=2000000):
 Calls Tryz.prog 147 #[.string (ofL l)] w λe w'=>e=.returned (.bool (A7c l))/\Fr (λ_=>False) w w':=by
 have h:=hid J;clear J;obtain⟨G,u⟩:∃G,A7c l=G:=⟨_,rfl⟩;rw[u];have q:=hid u;clear u;go_enter Tryz.func147,Tryz.ntmps147
 go_wp2_with fail
 refine(A9q l _ (by have:=h.out;omega)).mono ?_;rintro e L ⟨⟨d,g⟩,b⟩;have E:=hid b;cases c:A9i l with
 |none=>
  obtain⟨m,D,X,rfl⟩:=g c;have p:=hid c;clear d g b c;go_wp2;go_ret;rw[<-q.out,C4c p.out];exact⟨rfl,E.alloc _⟩
 |some x=>
  obtain⟨neg,C,fr,en,ex⟩:=x;obtain rfl:=d _ _ _ _ _ c;have p:=hid c;have a:=E2q c;have z:=F5w a;have I:B4b neg C fr en ex=.agg #[.bool neg,.string (ofL (C++fr)),.int .i64 (A3m fr en ex)]:=rfl;rw[I]
  have A: -1100000000000<=A3m fr en ex/\A3m fr en ex<=1100000000000:=by
   have:=h.out;have:=Nat.min_le_right (num (dv ex)) 1099511627776;unfold A3m;cases en
   ·simp only[Bool.false_eq_true,if_false];omega
   ·simp only[if_true];omega
  have H:=hid (λw=>B7j neg (C++fr) (A3m fr en ex) w (by have:=h.out;rw[List.length_append];omega) (a.w.1.append a.f) (by omega) (by omega));have i:=hid (λr=>C4a (r:=r) (fr:=fr) (en:=en) (ex:=ex) (a.w.1.append a.f) (by have:=h.out;rw[List.length_append];omega) (by have:=h.out;omega));generalize B:A3m fr en ex=X at*;clear d g b c I A a z B
  go_wp2_with fail
  refine(H.out _).mono ?_;rintro e M ⟨⟨r,hr,y⟩,j⟩;have F:=hid ((E.alloc _).trans j);have K:=hid (i.out r hr);clear hr j H i;have k:=hid (E0e w (by have:=h.out;omega) p.out K.out);rcases y with⟨n,rfl⟩|⟨o,v,rfl⟩
  ·have s:=hid n
   clear n;go_wp2;go_ret;rw[<-q.out,k.out,dcF (by have:=s.out;omega)];exact⟨rfl,F.out⟩
  ·have t:=hid o
   clear o;go_wp2;go_ret;rw[<-q.out,k.out,dcT (by have:=t.out;omega)];exact⟨rfl,F.out⟩
theorem F3z (l:LU8) (w:World) (t:l.length<=100000000):
 Calls Tryz.prog 146 #[.string (ofL l)] w λe w'=>e=.returned (.bool (B6n l))/\w'=w:=by
 have m:=A0c l;obtain⟨G,j⟩:∃G,B6n l=G:=⟨_,rfl⟩;rw[j];have p:=hid j;clear j;go_enter Tryz.func146,Tryz.ntmps146;go_wp2
 go_loopw [3] (λi wr=>∃k:Nat,k<=l.length/\i=.int .i64 k/\Hid (B6n (l.drop k)=G)/\wr=w) (λi _=>l.length-(intOf i).toNat)
 case atStart=>exact⟨0,by omega,rfl,p,rfl⟩
 case round=>
  obtain⟨k,s,rfl,a,rfl⟩:=hrel;by_cases g:k<l.length
  ·have r:(ofL l)[k]'(by rw[m];exact g)=l[k]:=A1d l k _
   have o:l.drop k=l[k]::l.drop (k+1):=List.drop_eq_getElem_cons g;rw[o,B6n]at a;generalize l[k]=c at*;clear o;by_cases d:c=101
   ·rw[if_pos (.inl d)]at a
    subst d;go_wp2;go_ret;rw[<-a.out];exact⟨rfl,rfl⟩
   have u:((c.toNat:Int)!=101)=true:=bne_iff_ne.2 (by have:=A0k d;simp at this;omega);by_cases f:c=69
   ·rw[if_pos (.inr f)]at a
    subst f;go_wp2;go_ret;rw[<-a.out];exact⟨rfl,rfl⟩
   have v:((c.toNat:Int)!=69)=true:=bne_iff_ne.2 (by have:=A0k f;simp at this;omega);rw[if_neg (by rintro(h|h);exact d h;exact f h)]at a;clear d f;by_cases b:49<=c.toNat/\c.toNat<=57
   ·rw[if_pos b]at a
    obtain⟨n,q⟩:=b;go_wp2;go_ret;rw[<-a.out];exact⟨rfl,rfl⟩
   ·rw[if_neg b]at a
    by_cases n:49<=c.toNat
    ·have q:¬c.toNat<=57:=λh=>b ⟨n,h⟩
     clear b;go_wp2;go_roundw
     case rel=>exact⟨k+1,by omega,by go_num,a,trivial⟩
     case measure=>simp[intOf];omega
    ·clear b
     go_wp2;go_roundw
     case rel=>exact⟨k+1,by omega,by go_num,a,trivial⟩
     case measure=>simp[intOf];omega
  ·obtain rfl:k=l.length:=by omega
   rw[List.drop_length,B6n]at a;go_wp2;go_ret;rw[<-a.out];exact⟨rfl,rfl⟩
def suV (k:Nat):LU8:=if k=0 then[]else if k=1 then[48]else if k=2 then[46,48]else if k=3 then[48,46,48]else[101,48]
def D3n:Array Value:=#[.string (ofL []),.string (ofL [48]),.string (ofL [46,48]),.string (ofL [48,46,48]),.string (ofL [101,48])]
theorem F4a {l:LU8} (h:∀j,j<5->A9i (l++suV j)=none):(run t0 l).isSome=false:=by
 cases hr:run t0 l with
 |none=>rfl
 |some t=>
  exfalso;rcases D8v hr with c|⟨d,a,b⟩
  ·have:=h 0 (by omega)
   rw[show suV 0=[]from rfl,List.append_nil]at this;exact B8i this hr c
  ·exact B8i (h 1 (by omega)) a b
theorem B2d {l b:LU8} (w:World) (c:(l++b).length<=1000000000000000) (h:A9i (l++b)≠none):(run t0 l).isSome=true:=by
 obtain⟨t,a,_⟩:=F8h w c h;cases hr:run t0 l with
 |some t=>rfl
 |none=>rw[D8w hr b]at a;cases a
theorem E7q (l:LU8) (w:World) (S:l.length<=1900000):
 Calls Tryz.prog 145 #[.string (ofL l)] w λe w'=>e=.returned (.bool (run t0 l).isSome)/\Fr (λ_=>False) w w':=by
 have Q:=A0c l;obtain⟨G,O⟩:∃G,(run t0 l).isSome=G:=⟨_,rfl⟩;rw[O];have E:=hid O;clear O;obtain⟨H,C⟩:∃H,H=w.alloc (.cells D3n 9):=⟨_,rfl⟩;have I:H.heap[w.heap.size]? =some (.cells D3n 9 (0,0)):=by rw[C];exact heap_alloc_new _ _
 have Fa:=hid (show Fr (λ_=>False) w H by rw[C];exact(Fr.refl _ _).alloc _);have M:=hid I;have N:=hid C;clear I C;go_enter Tryz.func145,Tryz.ntmps145;go_wp2;rw[show w.alloc (.cells #[.string ⟨#[]⟩,.string ⟨#[48]⟩,.string ⟨#[46,48]⟩,.string ⟨#[48,46,48]⟩,.string ⟨#[101,48]⟩] 9)=H from N.symm]
 go_loopw [4] (λi wr=>∃k:Nat,k<=5/\i=.int .i64 k/\Hid (Fr (λ_=>False) H wr)/\Hid (∀j,j<k->A9i (l++suV j)=none)) (λi _=>5-(intOf i).toNat)
 case atStart=>exact⟨0,by omega,rfl,hid (Fr.refl _ _),hid (λj hj=>by omega)⟩
 case round=>
  obtain⟨k,R,rfl,u,F⟩:=hrel;have z:∀j v,D3n[j]? =some v->wr.cell? ⟨w.heap.size,j,none⟩=some v:=λj v hv=>A0a (u.heap M.out id) hv
  have P:k=0\/k=1\/k=2\/k=3\/k=4\/k=5:=by omega
  rcases P with rfl|rfl|rfl|rfl|rfl|rfl
  ·have J:=z 0 (.string (ofL [])) rfl
   have n:ofL l++ofL []=ofL (l++suV 0):=A0j l [];have B:(ofL []).size=0:=rfl;have p:(l++suV 0).length<=1900100:=by rw[List.length_append];show l.length+0<=_;omega
   obtain⟨m,q⟩:∃m,l++suV 0=m:=⟨_,rfl⟩;rw[q]at n p;have g:=hid q;clear q;generalize o:ofL []=cs at*;clear o z
   go_wp2_with fail
   refine(A9q m _ (by omega)).mono ?_;rintro e L ⟨⟨d,f⟩,c⟩;have r:=hid c;cases a:A9i m with
   |none=>
    obtain⟨K,D,X,rfl⟩:=f a;have A:=hid a;clear d f c a;go_wp2;go_roundw
    case rel=>exact⟨1,by omega,by go_num,hid ((u.trans r.out).alloc _),hid (λj hj=>by
     by_cases e:j=0
     ·subst e;rw[g.out];exact A.out
     ·exact F.out j (by omega))⟩
    case measure=>simp[intOf]
   |some x=>
    obtain⟨neg,t,fr,en,ex⟩:=x;obtain rfl:=d _ _ _ _ _ a;have s:B4b neg t fr en ex=.agg #[.bool neg,.string (ofL (t++fr)),.int .i64 (A3m fr en ex)]:=rfl;rw[s];have y:=hid (show(run t0 l).isSome=true from B2d (b:=suV 0) w (by rw[g.out];omega) (by rw[g.out,a];simp));clear d f c a s;go_wp2;go_ret;rw[<-E.out,y.out];exact⟨rfl,(Fa.trans' ((u.trans r.out).alloc _) (λ_ h=>h.elim))⟩
  ·have J:=z 1 (.string (ofL [48])) rfl
   have n:ofL l++ofL [48]=ofL (l++suV 1):=A0j l [48];have B:(ofL [48]).size=1:=rfl;have p:(l++suV 1).length<=1900100:=by rw[List.length_append];show l.length+1<=_;omega
   obtain⟨m,q⟩:∃m,l++suV 1=m:=⟨_,rfl⟩;rw[q]at n p;have g:=hid q;clear q;generalize o:ofL [48]=cs at*;clear o z
   go_wp2_with fail
   refine(A9q m _ (by omega)).mono ?_;rintro e L ⟨⟨d,f⟩,c⟩;have r:=hid c;cases a:A9i m with
   |none=>
    obtain⟨K,D,X,rfl⟩:=f a;have A:=hid a;clear d f c a;go_wp2;go_roundw
    case rel=>exact⟨2,by omega,by go_num,hid ((u.trans r.out).alloc _),hid (λj hj=>by
     by_cases e:j=1
     ·subst e;rw[g.out];exact A.out
     ·exact F.out j (by omega))⟩
    case measure=>simp[intOf]
   |some x=>
    obtain⟨neg,t,fr,en,ex⟩:=x;obtain rfl:=d _ _ _ _ _ a;have s:B4b neg t fr en ex=.agg #[.bool neg,.string (ofL (t++fr)),.int .i64 (A3m fr en ex)]:=rfl;rw[s];have y:=hid (show(run t0 l).isSome=true from B2d (b:=suV 1) w (by rw[g.out];omega) (by rw[g.out,a];simp));clear d f c a s;go_wp2;go_ret;rw[<-E.out,y.out];exact⟨rfl,(Fa.trans' ((u.trans r.out).alloc _) (λ_ h=>h.elim))⟩
  ·have J:=z 2 (.string (ofL [46,48])) rfl
   have n:ofL l++ofL [46,48]=ofL (l++suV 2):=A0j l [46,48];have B:(ofL [46,48]).size=2:=rfl;have p:(l++suV 2).length<=1900100:=by rw[List.length_append];show l.length+2<=_;omega
   obtain⟨m,q⟩:∃m,l++suV 2=m:=⟨_,rfl⟩;rw[q]at n p;have g:=hid q;clear q;generalize o:ofL [46,48]=cs at*;clear o z
   go_wp2_with fail
   refine(A9q m _ (by omega)).mono ?_;rintro e L ⟨⟨d,f⟩,c⟩;have r:=hid c;cases a:A9i m with
   |none=>
    obtain⟨K,D,X,rfl⟩:=f a;have A:=hid a;clear d f c a;go_wp2;go_roundw
    case rel=>exact⟨3,by omega,by go_num,hid ((u.trans r.out).alloc _),hid (λj hj=>by
     by_cases e:j=2
     ·subst e;rw[g.out];exact A.out
     ·exact F.out j (by omega))⟩
    case measure=>simp[intOf]
   |some x=>
    obtain⟨neg,t,fr,en,ex⟩:=x;obtain rfl:=d _ _ _ _ _ a;have s:B4b neg t fr en ex=.agg #[.bool neg,.string (ofL (t++fr)),.int .i64 (A3m fr en ex)]:=rfl;rw[s];have y:=hid (show(run t0 l).isSome=true from B2d (b:=suV 2) w (by rw[g.out];omega) (by rw[g.out,a];simp));clear d f c a s;go_wp2;go_ret;rw[<-E.out,y.out];exact⟨rfl,(Fa.trans' ((u.trans r.out).alloc _) (λ_ h=>h.elim))⟩
  ·have J:=z 3 (.string (ofL [48,46,48])) rfl
   have n:ofL l++ofL [48,46,48]=ofL (l++suV 3):=A0j l [48,46,48];have B:(ofL [48,46,48]).size=3:=rfl;have p:(l++suV 3).length<=1900100:=by rw[List.length_append];show l.length+3<=_;omega
   obtain⟨m,q⟩:∃m,l++suV 3=m:=⟨_,rfl⟩;rw[q]at n p;have g:=hid q;clear q;generalize o:ofL [48,46,48]=cs at*;clear o z
   go_wp2_with fail
   refine(A9q m _ (by omega)).mono ?_;rintro e L ⟨⟨d,f⟩,c⟩;have r:=hid c;cases a:A9i m with
   |none=>
    obtain⟨K,D,X,rfl⟩:=f a;have A:=hid a;clear d f c a;go_wp2;go_roundw
    case rel=>exact⟨4,by omega,by go_num,hid ((u.trans r.out).alloc _),hid (λj hj=>by
     by_cases e:j=3
     ·subst e;rw[g.out];exact A.out
     ·exact F.out j (by omega))⟩
    case measure=>simp[intOf]
   |some x=>
    obtain⟨neg,t,fr,en,ex⟩:=x;obtain rfl:=d _ _ _ _ _ a;have s:B4b neg t fr en ex=.agg #[.bool neg,.string (ofL (t++fr)),.int .i64 (A3m fr en ex)]:=rfl;rw[s];have y:=hid (show(run t0 l).isSome=true from B2d (b:=suV 3) w (by rw[g.out];omega) (by rw[g.out,a];simp));clear d f c a s;go_wp2;go_ret;rw[<-E.out,y.out];exact⟨rfl,(Fa.trans' ((u.trans r.out).alloc _) (λ_ h=>h.elim))⟩
  ·have J:=z 4 (.string (ofL [101,48])) rfl
   have n:ofL l++ofL [101,48]=ofL (l++suV 4):=A0j l [101,48];have B:(ofL [101,48]).size=2:=rfl;have p:(l++suV 4).length<=1900100:=by rw[List.length_append];show l.length+2<=_;omega
   obtain⟨m,q⟩:∃m,l++suV 4=m:=⟨_,rfl⟩;rw[q]at n p;have g:=hid q;clear q;generalize o:ofL [101,48]=cs at*;clear o z
   go_wp2_with fail
   refine(A9q m _ (by omega)).mono ?_;rintro e L ⟨⟨d,f⟩,c⟩;have r:=hid c;cases a:A9i m with
   |none=>
    obtain⟨K,D,X,rfl⟩:=f a;have A:=hid a;clear d f c a;go_wp2;go_roundw
    case rel=>exact⟨5,by omega,by go_num,hid ((u.trans r.out).alloc _),hid (λj hj=>by
     by_cases e:j=4
     ·subst e;rw[g.out];exact A.out
     ·exact F.out j (by omega))⟩
    case measure=>simp[intOf]
   |some x=>
    obtain⟨neg,t,fr,en,ex⟩:=x;obtain rfl:=d _ _ _ _ _ a;have s:B4b neg t fr en ex=.agg #[.bool neg,.string (ofL (t++fr)),.int .i64 (A3m fr en ex)]:=rfl;rw[s];have y:=hid (show(run t0 l).isSome=true from B2d (b:=suV 4) w (by rw[g.out];omega) (by rw[g.out,a];simp));clear d f c a s;go_wp2;go_ret;rw[<-E.out,y.out];exact⟨rfl,(Fa.trans' ((u.trans r.out).alloc _) (λ_ h=>h.elim))⟩
  ·have y:=hid (F4a (l:=l) (λj hj=>F.out j hj))
   clear z;go_wp2;go_ret;rw[<-E.out,y.out];exact⟨rfl,Fa.trans u.out⟩
theorem E7r {l:LU8} {t:Tk} {neg:Bool} {c fr:LU8} {en:Bool} {ex:LU8} {r:Nat} (w:World) (i:l.length<=1000000000000000) (hr:run t0 l=some t) (g:A9i l=some (neg,c,fr,en,ex)) (h:A1t (num (dv (c++fr))) (D7j fr en ex) r):A8b t.st/\A3n t=A2z neg r:=by
 obtain⟨k,j,a,b,d,e,f⟩:=B5f w i g;rw[hr]at a;cases a;refine⟨b,?_⟩;rw[C0j b (C0m hr).1 e,d,h.uniq f]
theorem E7s {l:LU8} {t:Tk} (hr:run t0 l=some t):A7c l=decide ((A3n t).2=6):=by
 unfold A7c;rw[hr]
def C2f (t:Tk):Bool:=decide (6<=t.st)&& !t.pn
theorem F5x {t a:Tk} {c:UInt8} (h:nxt t c=some a):beh t.st c≠0/\a=A4q t c (beh t.st c):=by
 unfold nxt at h;split at h
 ·cases h
 ·rename_i hb
  cases h;exact⟨hb,rfl⟩
theorem G4s {st:Nat} {c:UInt8} (b:c=101\/c=69) (a:beh st c≠0):beh st c=6:=by
 unfold beh at a ⊢;rcases b with rfl|rfl
 ·repeat' split
  all_goals simp_all[isD]
 ·repeat' split
  all_goals simp_all[isD]
theorem E7t {st:Nat} {c:UInt8} (a:¬(c=101\/c=69)):beh st c≠6:=by
 unfold beh
 repeat' split
 all_goals first
  |omega
  |(rename_i h;exact absurd h.2 a)
theorem F4b (t:Tk) (c:UInt8) (k:Nat):(A4q t c k).pn=if k=7 then decide (c=45)else t.pn:=by
 unfold A4q;by_cases a:k=1
 ·simp[a]
 by_cases b:k=2\/k=3
 ·rcases b with rfl|rfl<;>simp
 by_cases d:k=5
 ·simp[d]
 by_cases e:k=7
 ·simp[e]
 by_cases f:k=8
 ·simp[f]
 simp[a,b,d,e,f]
def G3c (t:Tk):Prop:=t.st<=6->t.pn=false
theorem G4t:G3c t0:=λ_=>rfl
theorem D6h {st:Nat} {c:UInt8}:(beh st c=6->st<=5)/\(beh st c=7->st=6/\(c=43\/c=45))/\(beh st c=8->6<=st/\st<=8/\isD c=true)/\(beh st c≠0->beh st c<=5->st<=5):=by
 refine⟨λh=>?_,λh=>?_,λh=>?_,λh1 h2=>?_⟩
 all_goals
  unfold beh at*
  repeat' split at*
  all_goals first
   |omega
   |(simp_all;done)
   |(simp_all;omega)
theorem F4c {t b:Tk} {x:UInt8} (w:nxt t x=some b) (g:G3c t):
 G3c b/\(x=101\/x=69->C2f b=true/\A3b b=false)/\(¬(x=101\/x=69)->C2f t=true->x=45->C2f b=false/\A3b b=false)/\
 (¬(x=101\/x=69)->C2f t=true->x≠45->C2f b=true/\A3b b=oor b.D b.at/\(b.st=8\/(b.st=7/\x=43)))/\(¬(x=101\/x=69)->C2f t=false->C2f b=false/\A3b b=false):=by
 obtain⟨f,rfl⟩:=F5x w;obtain⟨p,j,q,i⟩:= @D6h t.st x;have v:=E1p t.st x;have o:=A9e t x (beh t.st x);have n:=F4b t x (beh t.st x);generalize d:beh t.st x=k at*;generalize A4q t x k=b at*;unfold G3c C2f A3b at*;rw[o,n];refine⟨λh=>?_,λhe=>?_,λhe hg hx=>?_,λhe hg hx=>?_,λhe hg=>?_⟩
 ·rw[if_neg (by omega)]
  by_cases c:k=6
  ·exact g (by have:=p c;omega)
  ·exact g (by have:=i f (by omega);omega)
 ·have c:k=6:=by rw[<-d];exact G4s he (by rw[d];exact f)
  have:=g (by have:=p c;omega);rw[if_neg (by omega),this,c];exact⟨rfl,rfl⟩
 ·simp only[Bool.and_eq_true,decide_eq_true_eq,Bool.not_eq_true']at hg
  have a:k=7\/k=8:=by
   have:= @E7t t.st x he;rw[d]at this;have r:=i f;omega
  rcases a with a|a
  ·rw[if_pos a,hx]
   simp
  ·exfalso
   have:=(q a).2.2;rw[hx]at this;exact absurd this (by decide)
 ·simp only[Bool.and_eq_true,decide_eq_true_eq,Bool.not_eq_true']at hg
  have a:k=7\/k=8:=by
   have:= @E7t t.st x he;rw[d]at this;have r:=i f;omega
  rcases a with a|a
  ·have l:x=43:=by
    rcases(j a).2 with h|h
    ·exact h
    ·exact absurd h hx
   rw[if_pos a,a,dcF hx];exact⟨rfl,by simp,.inr ⟨rfl,l⟩⟩
  ·rw[if_neg (by omega),a,hg.2]
   exact⟨rfl,by simp,.inl rfl⟩
 ·have m:= @E7t t.st x he
  rw[d]at m;by_cases c:6<=t.st
  ·have e:t.pn=true:=by
    cases y:t.pn with
    |true=>rfl
    |false=>rw[y,dcT c]at hg;cases hg
   have a:k≠7:=λh=>by
    have:=g (by have:=(j h).1;omega);rw[e]at this;cases this
   rw[if_neg a,e];simp
  ·have u:k<=5:=by
    by_cases a:k=7
    ·have:=(j a).1;omega
    ·by_cases s:k=8
     ·have:=(q s).1;omega
     ·omega
   rw[dcF (show¬6<=k by omega),dcF (show¬7<=k by omega)];exact⟨rfl,rfl⟩
theorem E7u {s:LU8} {t:Tk} (w:World) (l:s.length<=100000000) (hr:run t0 s=some t) (h:t.st=8\/t.st=7):(B6n s&&A7c (if t.st=7 then s++[48]else s))=oor t.D t.at:=by
 have j:oor t.D t.at=true->B6n s=true:=λb=>by
  refine G2j (t:=t0) rfl (Nat.zero_le _) hr ?_;intro g;rw[g]at b;simp[oor]at b
 have i:A7c (if t.st=7 then s++[48]else s)=oor t.D t.at:=by
  by_cases c:t.st=7
  ·rw[if_pos c]
   have k:beh t.st 48=8:=by rw[c];decide
   have a:run t0 (s++[48])=some (A4q t 48 8):=by
    rw[B7x 48 hr];unfold nxt;rw[k];rfl
   have d:t.pw=0:=(C0m hr).2 (by omega);rw[B6m w (by rw[List.length_append];simp;omega) a (by rw[A9e];exact .inr (.inr (.inr rfl)))];have e:(A4q t 48 8).D=t.D:=by simp[A4q]
   have f:(A4q t 48 8).at=t.at:=by
    unfold Tk.at A4q;simp[d]
   rw[e,f]
  ·rw[if_neg c]
   exact B6m w (by omega) hr (by unfold A8b;omega)
 rw[i];cases b:oor t.D t.at with
 |true=>rw[j b];rfl
 |false=>simp
end Go.Proofs.YtmkkibaacclhnaaGreatDoor
