/-
  Part Bo.
-/
import Derived.Test.YtmkkibaacclhnaaGreatDoorBn
namespace Go.Proofs.YtmkkibaacclhnaaGreatDoor
open Go.RowKit
set_option maxRecDepth 100000
set_option maxHeartbeats 16000000
theorem E7k (l U fr r3:LU8) (n:Nat) (m:Bool) (w wc:World) (u1 u3 u5 u7 u8 u9 u10 u11 u12 u13 u14 u15 u16 u17 u18 u19 u20 u21 u22 u23 u24 u25 u26 u27 u28 u29 u30 u31 u32 u33 u34 u35 u36 u37 u38 u39 u40 u41 u42 u43 u44 u45 u46 u47 u48 u49 u50 u51 u52 u53 u54 u55 u56 u57 u58 u59 u60 u61 u62 u63 u64 u65 u66 u67 u68 u69 u70 u71 u72 u73 u74 u75 u76 u77 u78 u79 u80 u81 u82 u83 u84 u85 u86 u87 u88 u89 u90 u91 u92 u93 u94 u95 u96 u97 u98 u99 u100 u101 u102 u103 u104 u105 u106 u107 u108 u109 u110 u111 u112 u113 u114 u115 u116 u117 u118 u119 u120 u121 u122 u123 u124 u125 u126 u127 u128 u129 u130 u131 u132 u133 u134 u135 u136 u137 u138 u139 u140 u141 u142 u143 u144 u145 u146 u147 u148 u149 u150 u151 u152 u153 u154 u155:Value) (hl:l.length<=4000000) (B:Hid (A9i l=B4k m U fr r3)) (K:Hid (l.drop n=r3)) (M:n+r3.length=l.length) (a9:fr.length<=l.length)
 (f:Hid (wc.heap[w.heap.size]? =some (.cells #[.bool false,.string ⟨#[]⟩,.int .i64 0] 194 (0,0)))) (o:Hid (wc.heap[w.heap.size+1]? =some (.cells #[.bool m,.string (ofL (U++fr)),.int .i64 (-(fr.length:Int))] 194 (0,0)))) (hF:Hid (Fr (λ_=>False) w wc)):
 Code.wp Tryz.prog G3a (bodyPost Tryz.prog Tryz.f148 (λe w'=>B8n l e/\Fr (λ_=>False) w w')) ⟨List.toArray ((Value.string (ofL l))::u1::(Value.pointer (some ⟨w.heap.size,0,none⟩))::u3::(Value.pointer (some ⟨w.heap.size+1,0,none⟩))::u5::(Value.int .i64 (n:Int))::u7::u8::u9::u10::u11::u12::u13::u14::u15::u16::u17::u18::u19::u20::u21::u22::u23::u24::u25::u26::u27::u28::u29::u30::u31::u32::u33::u34::u35::u36::u37::u38::u39::u40::u41::u42::u43::u44::u45::u46::u47::u48::u49::u50::u51::u52::u53::u54::u55::u56::u57::u58::u59::u60::u61::u62::u63::u64::u65::u66::u67::u68::u69::u70::u71::u72::u73::u74::u75::u76::u77::u78::u79::u80::u81::u82::u83::u84::u85::u86::u87::u88::u89::u90::u91::u92::u93::u94::u95::u96::u97::u98::u99::u100::u101::u102::u103::u104::u105::u106::u107::u108::u109::u110::u111::u112::u113::u114::u115::u116::u117::u118::u119::u120::u121::u122::u123::u124::u125::u126::u127::u128::u129::u130::u131::u132::u133::u134::u135::u136::u137::u138::u139::u140::u141::u142::u143::u144::u145::u146::u147::u148::u149::u150::u151::u152::u153::u154::u155::[]),[]⟩ wc:=by
 have a3:=A0c l
 conv=>arg 2;whnf
 obtain⟨D,hD⟩:∃D,U++fr=D:=⟨_,rfl⟩;rw[hD]at o;have g0:=A1b o.out;have g1:=A0t o.out;have g2:=A1c o.out;have c1:=A0u (j:=2) o.out;have d0:=A1b f.out;have d1:=A0t f.out;have d2:=A1c f.out;have b8:=A0u (j:=0) f.out;have b9:=A0u (j:=1) f.out;have c0:=A0u (j:=2) f.out
 have a1:∀(x:UInt8) (r:LU8) (k:Nat),l.drop k=x::r->∃h:k<l.length,(ofL l)[k]'(by rw[a3];exact h)=x:=by
  intro x r k hk
  have E:k<l.length:=by
   rcases Nat.lt_or_ge k l.length with h|h
   ·exact h
   ·rw[List.drop_of_length_le h]at hk;cases hk
  refine⟨E,?_⟩;rw[A1d];rw[List.drop_eq_getElem_cons E]at hk;exact(List.cons.inj hk).1
 have H:=hid a1;clear a1;cases r3 with
 |nil=>
  have N:l.length=n:=by simpa using M.symm
  clear M;have R:=hid (show A9i l=some (m,U,fr,false,[])from B.out);subst N;go_wp2;have a:=A1y (u:=.int .i64 (-(fr.length:Int))) (A1s (u:=.string (ofL D)) (A2u (u:=.bool m) f.out));have X:=A1b a;have Y:=A0t a;have Z:=A1c a;refine bodyPost_ret (v:=.tuple #[.agg #[.bool m,.string (ofL D),.int .i64 (-(fr.length:Int))],.bool true]) (by simp[results,Tryz.results148,go_sem,X,Y,Z]) rfl ?_;refine⟨?_,((hF.setCell (.inr (by simp)) _).setCell (.inr (by simp)) _).setCell (.inr (by simp)) _⟩;refine⟨λ_ _ _ _ _ h=>?_,λh=>(by rw[R.out]at h;cases h)⟩;rw[R.out]at h;simp only[Option.some.injEq,Prod.mk.injEq]at h;obtain⟨rfl,rfl,rfl,rfl,rfl⟩:=h;rw[B4b,hD];simp[dv,num]
 |cons x r4=>
  obtain⟨a2,b0⟩:=H.out x r4 n K.out;have N:((n:Int)==(l.length:Int))=false:=bqF (by omega);have z:n+1+r4.length=l.length:=by rw[<-M];simp;omega
  go_upto_region 16 with fail
  go_cut [90] (λb wc'=>b=.bool (decide (x=101\/x=69))/\wc'=wc)
  case first=>
   by_cases J:x=101
   ·have hx:((x.toNat:Int)==101)=true:=by rw[J];rfl
    have i:=hid (show decide (x=101\/x=69)=true by simp[J]);clear J;go_wp2;go_meet;exact⟨by rw[i.out],rfl⟩
   ·have hx:((x.toNat:Int)==101)=false:=bqF (by have:=A2w J;simp at this;omega)
    by_cases S:x=69
    ·have Q:((x.toNat:Int)==69)=true:=by rw[S];rfl
     have i:=hid (show decide (x=101\/x=69)=true by simp[S]);clear J S;go_wp2;go_meet;exact⟨by rw[i.out],rfl⟩
    ·have Q:((x.toNat:Int)==69)=false:=bqF (by have:=A2w S;simp at this;omega)
     have i:=hid (show decide (x=101\/x=69)=false by simp[J,S]);clear J S;go_wp2;go_meet;exact⟨by rw[i.out],rfl⟩
  case rest=>
   obtain⟨rfl,rfl⟩:=hcut;by_cases L:x=101\/x=69
   ·rw[dcT L]
    have a0:C5d (x::r4)=(r4,true):=by
     unfold C5d;rcases L with rfl|rfl
     ·rw[A4j];rfl
     ·rw[A4c (by simp),A4j];rfl
    have q:=hid (show A9i l=(if(B3n r4).1.takeWhile isD=[]then none else C1k m U fr (B3n r4).2 ((B3n r4).1.takeWhile isD) ((B3n r4).1.dropWhile isD))from by rw[B.out,B4k,a0];rfl);have s:=hid (show l.drop (n+1)=r4 from by rw[<-List.drop_drop,K.out];rfl);clear a0 L B K b0 N;have b6:n+1<=l.length:=by omega
    go_upto_region 18 with fail
    go_cut [7] (λb wc'=>b=.bool (decide (r4.head? =some 45))/\wc'=wc)
    case first=>
     cases r4 with
     |nil=>
      have b4:l.length=n+1:=by simpa using z.symm
      clear z;go_wp2;go_meet;exact⟨rfl,rfl⟩
     |cons y r5=>
      obtain⟨b5,b1⟩:=H.out y r5 (n+1) s.out;by_cases d:y=45
      ·have hx:((y.toNat:Int)==45)=true:=by rw[d];rfl
       have i:=hid (show decide ((y::r5).head? =some 45)=true by simp[d]);clear d;go_wp2;go_meet;exact⟨by rw[i.out],rfl⟩
      ·have hx:((y.toNat:Int)==45)=false:=bqF (by have:=A2w d;simp at this;omega)
       have i:=hid (show decide ((y::r5).head? =some 45)=false by simp[d]);clear d;go_wp2;go_meet;exact⟨by rw[i.out],rfl⟩
    case rest=>
     obtain⟨rfl,rfl⟩:=hcut;obtain⟨en,t⟩:∃en,decide (r4.head? =some 45)=en:=⟨_,rfl⟩;rw[t];have W:=hid (t.symm.trans (F8z r4));clear t
     go_upto_region 19 with fail
     go_cut [118] (λb wc'=>b=.bool (decide (r4.head? =some 45\/r4.head? =some 43))/\wc'=wc)
     case first=>
      cases r4 with
      |nil=>
       have b4:l.length=n+1:=by simpa using z.symm
       clear z;go_wp2;go_meet;exact⟨rfl,rfl⟩
      |cons y r5=>
       obtain⟨b5,b1⟩:=H.out y r5 (n+1) s.out;by_cases d:y=45
       ·have hx:((y.toNat:Int)==45)=true:=by rw[d];rfl
        have i:=hid (show decide ((y::r5).head? =some 45\/(y::r5).head? =some 43)=true by simp[d]);clear d;go_wp2;go_meet;exact⟨by rw[i.out],rfl⟩
       ·have hx:((y.toNat:Int)==45)=false:=bqF (by have:=A2w d;simp at this;omega)
        by_cases p:y=43
        ·have Q:((y.toNat:Int)==43)=true:=by rw[p];rfl
         have i:=hid (show decide ((y::r5).head? =some 45\/(y::r5).head? =some 43)=true by simp[p]);clear d p;go_wp2;go_meet;exact⟨by rw[i.out],rfl⟩
        ·have Q:((y.toNat:Int)==43)=false:=bqF (by have:=A2w p;simp at this;omega)
         have i:=hid (show decide ((y::r5).head? =some 45\/(y::r5).head? =some 43)=false by simp[d,p]);clear d p;go_wp2;go_meet;exact⟨by rw[i.out],rfl⟩
     case rest=>
      obtain⟨rfl,rfl⟩:=hcut
      go_upto_if 118 with fail
      go_cut [5] (λat' wc'=>∃k:Nat,at'=.int .i64 (k:Int)/\k<=l.length/\Hid (l.drop k=(B3n r4).1)/\wc'=wc)
      case first=>
       by_cases P:r4.head? =some 45\/r4.head? =some 43
       ·rw[dcT P]
        have I:=hid (show l.drop (n+2)=(B3n r4).1 from by rw[show n+2=n+1+1 from rfl,<-List.drop_drop,s.out];exact E7i P)
        have c3:1<=r4.length:=by
         cases r4 with
         |nil=>simp at P
         |cons=>simp
        clear P;go_wp2;go_meet;exact⟨n+2,by go_num,by omega,I,rfl⟩
       ·rw[dcF P]
        have I:=hid (show l.drop (n+1)=(B3n r4).1 from by rw[s.out];exact(E7j P).symm);clear P;go_wp2;go_meet;exact⟨n+1,by go_num,by omega,I,rfl⟩
      case rest=>
       obtain⟨k,rfl,E,C,rfl⟩:=hcut;obtain⟨ex,g⟩:∃ex,(B3n r4).1.takeWhile isD=ex:=⟨_,rfl⟩;obtain⟨T,O⟩:∃T,(B3n r4).1.dropWhile isD=T:=⟨_,rfl⟩;have A:ex++T=(B3n r4).1:=by rw[<-g,<-O];exact List.takeWhile_append_dropWhile
       have a7:A4h ex:=by rw[<-g];intro c hc;exact List.all_eq_true.1 List.all_takeWhile c hc
       have G:D6g l k=k+ex.length:=by unfold D6g;rw[C.out,g]
       have b3:k+(ex.length+T.length)=l.length:=by
        have:=congrArg List.length C.out;rw[List.length_drop,<-A,List.length_append]at this;omega
       rw[g,O]at q;rw[<-W.out]at q;have V:=hid G
       have a6:=hid (show∀j (hj:j<ex.length),∃h:k+j<l.length,(ofL l)[k+j]'(by rw[a3];exact h)=ex[j]from by
        intro j hj;have b2:k+j<l.length:=by omega
        refine⟨b2,?_⟩;rw[A1d];have a8:l.drop k=ex++T:=by rw[C.out,A]
        have h3:(l.drop k)[j]'(by rw[List.length_drop];omega)=l[k+j]:=by simp
        rw[<-h3];simp only[a8]
        rw[List.getElem_append_left hj])
       clear A g O W C G s z a2 b6;have a5:=hid (B4a l k)
       go_wp2_with fail
       refine(a5.out _ (by omega) E).mono ?_;rintro e w1 ⟨rfl,rfl⟩;rw[V.out];by_cases F:ex=[]
       ·subst F
        have R:=hid (show A9i l=none from q.trans (if_pos rfl));simp only[List.length_nil,Nat.add_zero];go_wp2;have a:=A1y (u:=.int .i64 (-(fr.length:Int))) (A1s (u:=.string (ofL D)) (A2u (u:=.bool m) f.out));have X:=A1b a;have Y:=A0t a;have Z:=A1c a;refine bodyPost_ret (v:=.tuple #[.agg #[.bool m,.string (ofL D),.int .i64 (-(fr.length:Int))],.bool false]) (by simp[results,Tryz.results148,go_sem,X,Y,Z]) rfl ?_;refine⟨?_,((hF.setCell (.inr (by simp)) _).setCell (.inr (by simp)) _).setCell (.inr (by simp)) _⟩;exact⟨λ_ _ _ _ _ h=>(by rw[R.out]at h;cases h),λ_=>⟨_,_,_,rfl⟩⟩
       ·have b7:0<ex.length:=by cases ex with|nil=>exact absurd rfl F|cons=>simp
        have a4:=hid (q.trans (if_neg F));have c2:(((k+ex.length:Nat):Int)==(k:Int))=false:=bqF (by omega);clear F q;rw[<-hD]at o
        go_upto_if 126 with fail
        go_step
        go_step
        go_step
        go_step
        exact F3u l U fr ex T k m en w _ _ _ _ _ _ _ _ _ _ _ _ _ _ _ _ _ _ _ _ _ _ _ _ _ _ _ _ _ _ _ _ _ _ _ _ _ _ _ _ _ _ _ _ _ _ _ _ _ _ _ _ _ _ _ _ _ _ _ _ _ _ _ _ _ _ _ _ _ _ _ _ _ _ _ _ _ _ _ _ _ _ _ _ _ _ _ _ _ _ _ _ _ _ _ _ _ _ _ _ _ _ _ _ _ _ _ _ _ _ _ _ _ _ _ _ _ _ _ _ _ _ _ _ _ _ _ _ _ _ _ _ _ _ _ _ _ _ _ _ _ _ _ _ _ _ _ _ _ _ _ _ (by assumption) hl a9 b7 b3 a7 a6 a4 f o hF
   ·rw[dcF L]
    have R:=hid (show A9i l=none from by
     rw[B.out,B4k,C5d,A4c (by simp;intro h;exact L (.inl h)),A4c (by simp;intro h;exact L (.inr h))]
     rfl)
    clear L;go_wp2;have a:=A1y (u:=.int .i64 (-(fr.length:Int))) (A1s (u:=.string (ofL D)) (A2u (u:=.bool m) f.out));have X:=A1b a;have Y:=A0t a;have Z:=A1c a;refine bodyPost_ret (v:=.tuple #[.agg #[.bool m,.string (ofL D),.int .i64 (-(fr.length:Int))],.bool false]) (by simp[results,Tryz.results148,go_sem,X,Y,Z]) rfl ?_;refine⟨?_,((hF.setCell (.inr (by simp)) _).setCell (.inr (by simp)) _).setCell (.inr (by simp)) _⟩;exact⟨λ_ _ _ _ _ h=>(by rw[R.out]at h;cases h),λ_=>⟨_,_,_,rfl⟩⟩
theorem A9q (l:LU8) (w:World) (hl:l.length<=4000000):
 Calls Tryz.prog 148 #[.string (ofL l)] w λe w'=>B8n l e/\Fr (λ_=>False) w w':=by
 have b2:=A0c l;go_enter Tryz.func148,Tryz.ntmps148
 go_upto_region 1 with fail
 go_cut [4] (λtp wc=>tp=.pointer (some ⟨w.heap.size+1,0,none⟩)/\wc=F3s w (A8x 45 l).2 [] 0)
 case first=>
  by_cases L:0<l.length
  ·have b0:(ofL l).toList.isEmpty=false:=by rw[A0y];cases l with|nil=>simp at L|cons=>rfl
   have hg:(ofL l)[0]'(by omega)=l[0]:=A1d l 0 _;have hh:l.head? =some l[0]:=by cases l with|nil=>simp at L|cons=>rfl
   by_cases y:l[0]=45
   ·have hx:((l[0].toNat:Int)==45)=true:=by rw[y];rfl
    have HR:=hid (show(A8x 45 l).2=true from by rw[A8x,if_pos (by rw[hh,y])]);clear y hh;go_wp2;go_meet;exact⟨rfl,by rw[HR.out];rfl⟩
   ·have hx:((l[0].toNat:Int)==45)=false:=bqF (by have:=A2w y;simp at this;omega)
    have HR:=hid (show(A8x 45 l).2=false from by rw[A8x,if_neg (by rw[hh];simpa using y)]);clear y hh;go_wp2;go_meet;exact⟨rfl,by rw[HR.out];rfl⟩
  ·have T:l=[]:=List.eq_nil_of_length_eq_zero (by omega)
   subst T;have b0:(ofL []).toList.isEmpty=true:=by rw[A0y];rfl
   go_wp2;go_meet;exact⟨rfl,rfl⟩
 case rest=>
  obtain⟨rfl,rfl⟩:=hcut;have S:=F3r l;obtain⟨m,Y⟩:∃m,(A8x 45 l).2=m:=⟨_,rfl⟩;obtain⟨N,q⟩:∃N,(A8x 45 l).1=N:=⟨_,rfl⟩;obtain⟨p,L⟩:∃p:Nat,(if m=true then 1 else 0)=p:=⟨_,rfl⟩;rw[Y,q,L]at S;rw[Y];have e5:p<=1:=by rw[<-L];split<;>omega
  have c8:p<=l.length:=by
   rcases Nat.lt_or_ge l.length p with h|h
   ·exfalso
    have e4:p=1:=by omega
    have T:l=[]:=List.eq_nil_of_length_eq_zero (by omega);rw[T]at Y;have:m=false:=by rw[<-Y];rfl
    rw[this]at L;simp at L;omega
   ·exact h
  have HP:=hid L;have HM:=hid Y;have a4:=hid q;have o:=hid S;clear Y q L S;simp only[F3s]
  go_upto_if 19 with fail
  go_cut [5] (λat' wc=>at'=.int .i64 (p:Int)/\wc=F3s w m [] 0)
  case first=>
   cases m
   ·have V:p=0:=by have:=HP.out;simpa using this.symm
    subst V;go_wp2;go_meet;exact⟨rfl,rfl⟩
   ·have V:p=1:=by have:=HP.out;simpa using this.symm
    subst V;go_wp2;go_meet;exact⟨rfl,rfl⟩
  case rest=>
   obtain⟨rfl,rfl⟩:=hcut;obtain⟨R,D⟩:∃R,N.takeWhile isD=R:=⟨_,rfl⟩;obtain⟨k,M⟩:∃k,N.dropWhile isD=k:=⟨_,rfl⟩;have i:R++k=N:=by rw[<-D,<-M];exact List.takeWhile_append_dropWhile
   have c5:l.length-p=N.length:=by have:=congrArg List.length o.out;rwa[List.length_drop]at this
   have Q:∀j (hj:j<N.length),l[p+j]'(Nat.add_lt_of_lt_sub' (c5▸hj))=N[j]:=by
    intro j hj;have:=o.out;subst this;simp
   have a7:D6g l p=p+R.length:=by unfold D6g;rw[o.out,D]
   have B:A9i l=E9w m R k:=by unfold A9i;rw[HM.out,a4.out,D,M]
   have C:l.length=p+(R.length+k.length):=by
    have:=congrArg List.length o.out;rw[List.length_drop,<-i,List.length_append]at this;omega
   have d4:A4h R:=by rw[<-D];intro c G;exact List.all_eq_true.1 List.all_takeWhile c G
   have HG:=hid Q;have F:=hid B;have X:=hid i;have d3:=hid (show NoD k by rw[<-M];exact C7d _);clear Q B i D M a4 HM HP
   go_wp2_with fail
   refine(B4a l p _ (by omega) c8).mono ?_;rintro e w1 ⟨rfl,rfl⟩;rw[a7];clear a7;simp only[F3s];have d2:=hid (show Fr (λ_=>False) w ((w.alloc (.cells #[.bool false,.string ⟨#[]⟩,.int .i64 0] 194)).alloc (.cells #[.bool m,.string (ofL []),.int .i64 0] 194))from((Fr.refl _ w).alloc _).alloc _);cases R with
   |nil=>
    have HN:=hid (show A9i l=none from F.trans (if_pos (.inl rfl)));simp only[List.length_nil,Nat.add_zero];go_wp2;have A:=(Below.heap_alloc (w.alloc (.cells #[.bool m,.string (ofL []),.int .i64 0] 194)) (.cells #[.bool m,.string (ofL []),.int .i64 0] 194) w.heap.size (by simp)).trans (heap_alloc_new w (.cells #[.bool m,.string (ofL []),.int .i64 0] 194));have e0:=A1b A;have e1:=A0t A;have e2:=A1c A;refine bodyPost_ret (v:=.tuple #[.agg #[.bool m,.string (ofL []),.int .i64 0],.bool false]) (by simp[results,Tryz.results148,go_sem,e0,e1,e2]) rfl ?_;exact⟨⟨λ_ _ _ _ _ h=>(by rw[HN.out]at h;cases h),λ_=>⟨_,_,_,rfl⟩⟩,((Fr.refl _ w).alloc _).alloc _⟩
   |cons c t=>
    have q:=X.out;have c9:0<N.length:=by rw[<-q];simp
    have f:l.length=p+(t.length+1+k.length):=by rw[C];simp
    have a2:=hid C;clear C;have c7:p<l.length:=by omega
    have c4:(ofL l)[p]'(by rw[b2];exact c7)=c:=by
     rw[A1d];have:=HG.out 0 c9;simp only[Nat.add_zero]at this;rw[this];subst q;rfl
    clear q;simp only[List.length_cons]
    go_upto_region 6 with fail
    go_cut [37] (λb wc=>b=.bool (decide (c=48/\t≠[]))/\wc=((w.alloc (.cells #[.bool false,.string ⟨#[]⟩,.int .i64 0] 194)).alloc (.cells #[.bool m,.string (ofL []),.int .i64 0] 194)))
    case first=>
     by_cases G:c=48
     ·have hx:((c.toNat:Int)==48)=true:=by rw[G];rfl
      cases t with
      |nil=>
       have E:=hid (show decide (c=48/\([]:LU8)≠[])=false by simp);simp only[List.length_nil,Nat.zero_add]at*;have b1:((p:Int)+1==(p:Int))=false:=bqF (by omega);clear G;go_wp2;go_meet;exact⟨by rw[E.out],rfl⟩
      |cons d t=>
       have E:=hid (show decide (c=48/\d::t≠[])=true by simp[G]);simp only[List.length_cons]at*;have b1:((p:Int)+((t.length:Int)+1+1)==(p:Int))=false:=bqF (by omega);clear G;go_wp2;go_meet;refine⟨?_,rfl⟩;rw[E.out];congr 1;exact dcT (by omega)
     ·have hx:((c.toNat:Int)==48)=false:=bqF (by have:=A2w G;simp at this;omega)
      have E:=hid (show decide (c=48/\t≠[])=false by simp[G]);have b1:((p:Int)+((t.length:Int)+1)==(p:Int))=false:=bqF (by omega);clear G;go_wp2;go_meet;exact⟨by rw[E.out],rfl⟩
    case rest=>
     obtain⟨rfl,rfl⟩:=hcut;by_cases g:c=48/\t≠[]
     ·have HN:=hid (show A9i l=none from F.trans (if_pos (.inr ⟨by rw[g.1];rfl,by
       have:=g.2;cases t with
       |nil=>exact absurd rfl this
       |cons=>simp⟩)))
      rw[dcT g];clear g;go_wp2;have A:=(Below.heap_alloc (w.alloc (.cells #[.bool m,.string (ofL []),.int .i64 0] 194)) (.cells #[.bool m,.string (ofL []),.int .i64 0] 194) w.heap.size (by simp)).trans (heap_alloc_new w (.cells #[.bool m,.string (ofL []),.int .i64 0] 194));have e0:=A1b A;have e1:=A0t A;have e2:=A1c A;refine bodyPost_ret (v:=.tuple #[.agg #[.bool m,.string (ofL []),.int .i64 0],.bool false]) (by simp[results,Tryz.results148,go_sem,e0,e1,e2]) rfl ?_;exact⟨⟨λ_ _ _ _ _ h=>(by rw[HN.out]at h;cases h),λ_=>⟨_,_,_,rfl⟩⟩,((Fr.refl _ w).alloc _).alloc _⟩
     ·have Z:=hid (show A9i l=C5e m (c::t) k from F.trans (if_neg (by
       rintro(h|⟨h1,h2⟩)
       ·cases h
       ·apply g
        simp at h1;refine⟨h1,?_⟩;rintro rfl
        simp at h2)))
      rw[dcF g]
      have a8:(ofL l).extract p (p+(t.length+1))=ofL (c::t):=by
       rw[A0r,List.drop_take,o.out,<-X.out];simp
      clear g F
      go_upto_region 9 with fail
      go_cut [53] (λb wc=>b=.bool (decide (k.head? =some 46))/\wc=((w.alloc (.cells #[.bool false,.string ⟨#[]⟩,.int .i64 0] 194)).alloc (.cells #[.bool m,.string (ofL (c::t)),.int .i64 0] 194)))
      case first=>
       cases k with
       |nil=>
        have e3:l.length=p+(t.length+1):=by simpa using f
        clear f;go_wp2;go_meet;exact⟨rfl,rfl⟩
       |cons x r=>
        have U:l.length=p+(t.length+1+(r.length+1)):=by simpa using f
        clear f;have a9:p+(t.length+1)<l.length:=by omega
        have d8:(ofL l)[p+(t.length+1)]'(by rw[b2];exact a9)=x:=by
         rw[A1d];have:=HG.out (t.length+1) (by rw[<-X.out];simp);rw[this];simp[<-X.out]
        by_cases a:x=46
        ·have hx:((x.toNat:Int)==46)=true:=by rw[a];rfl
         have E:=hid (show decide ((x::r).head? =some 46)=true by simp[a]);clear a;go_wp2;go_meet;exact⟨by rw[E.out],rfl⟩
        ·have hx:((x.toNat:Int)==46)=false:=bqF (by have:=A2w a;simp at this;omega)
         have E:=hid (show decide ((x::r).head? =some 46)=false by simp[a]);clear a;go_wp2;go_meet;exact⟨by rw[E.out],rfl⟩
      case rest=>
       obtain⟨rfl,rfl⟩:=hcut
       go_upto_if 53 with fail
       go_cut [6] (λen wc=>∃(fr u:LU8) (n:Nat),en=.int .i64 (n:Int)/\Hid (A9i l=B4k m (c::t) fr u)/\Hid (l.drop n=u)/\n+u.length=l.length/\fr.length<=l.length/\
        Hid (wc.heap[w.heap.size]? =some (.cells #[.bool false,.string ⟨#[]⟩,.int .i64 0] 194 (0,0)))/\Hid (wc.heap[w.heap.size+1]? =some (.cells #[.bool m,.string (ofL (c::t++fr)),.int .i64 (-(fr.length:Int))] 194 (0,0)))/\Hid (Fr (λ_=>False) w wc))
       case first=>
        by_cases a:k.head? =some 46
        ·rw[dcT a]
         obtain⟨r,rfl⟩:∃r,k=46::r:=by
          cases k with
          |nil=>cases a
          |cons x r=>simp at a;subst a;exact⟨r,rfl⟩
         have U:l.length=p+(t.length+1+(r.length+1)):=by simpa using f
         obtain⟨fr,J⟩:∃fr,r.takeWhile isD=fr:=⟨_,rfl⟩;obtain⟨u,W⟩:∃u,r.dropWhile isD=u:=⟨_,rfl⟩;have s:fr++u=r:=by rw[<-J,<-W];exact List.takeWhile_append_dropWhile
         have d9:r.length=fr.length+u.length:=by rw[<-s,List.length_append]
         have H:l.drop (p+(t.length+1)+1)=r:=by rw[<-List.drop_drop,<-List.drop_drop,o.out,<-X.out];simp
         have O:D6g l (p+(t.length+1)+1)=p+(t.length+1)+1+fr.length:=by unfold D6g;rw[H,J]
         have a6:C5e m (c::t) (46::r)=(if fr=[]then none else B4k m (c::t) fr u):=by rw[C5e,A4j];simp only[if_true];rw[J,W]
         have z:=hid (Z.trans a6)
         have P:(ofL l).extract (p+(t.length+1)+1) (p+(t.length+1)+1+fr.length)=ofL fr:=by
          rw[A0r,List.drop_take,H,<-s];simp
         have a0:=hid (show l.drop (p+(t.length+1)+1+fr.length)=u from by rw[<-List.drop_drop,H,<-s];simp);have d0:(ofL (c::t)).size=t.length+1:=by rw[A0c];simp
         have d1:=A0c fr;have c0:=A0j (c::t) fr;have b4:=hid (B4a l (p+(t.length+1)+1));clear a6 s J W H a f a2;have a5:((p:Int)+((t.length:Int)+1)+1)=((p+(t.length+1)+1:Nat):Int):=by omega
         have a3:=hid a5;have a1:=hid O;clear a5 O
         go_wp2_with fail
         rw[a3.out];refine(b4.out _ (by omega) (by omega)).mono ?_;rintro e w1 ⟨rfl,rfl⟩;rw[a1.out];obtain⟨K,hK⟩:∃K:Nat,p+(t.length+1)+1=K:=⟨_,rfl⟩;rw[hK]at a3 a0 P ⊢;by_cases I:fr=[]
         ·subst I
          have HN:=hid (show A9i l=none from z.trans (if_pos rfl));simp only[List.length_nil,Nat.add_zero];clear P c0 d0 d1 a8;go_wp2;have A:=(Below.heap_alloc (w.alloc (.cells #[.bool m,.string (ofL (c::t)),.int .i64 0] 194)) (.cells #[.bool m,.string (ofL (c::t)),.int .i64 0] 194) w.heap.size (by simp)).trans (heap_alloc_new w (.cells #[.bool m,.string (ofL (c::t)),.int .i64 0] 194));have e0:=A1b A;have e1:=A0t A;have e2:=A1c A;refine bodyPost_ret (v:=.tuple #[.agg #[.bool m,.string (ofL (c::t)),.int .i64 0],.bool false]) (by simp[results,Tryz.results148,go_sem,e0,e1,e2]) rfl ?_;exact⟨⟨λ_ _ _ _ _ h=>(by rw[HN.out]at h;cases h),λ_=>⟨_,_,_,rfl⟩⟩,((Fr.refl _ w).alloc _).alloc _⟩
         ·have d7:0<fr.length:=by cases fr with|nil=>exact absurd rfl I|cons=>simp
          have b3:=hid (z.trans (if_neg I));have b0:(((K+fr.length:Nat):Int)==(K:Int))=false:=bqF (by omega);have b9:K+fr.length+u.length=l.length:=by omega
          have b6:=hid b9;have d5:K<=5000000:=by omega
          have d6:fr.length<=5000000:=by omega
          clear I z a8 c4;go_wp2;go_region
          all_goals
           go_wp2;go_meet;refine⟨fr,u,K+fr.length,by go_num,b3,a0,b6.out,by omega,hid ?_,hid ?_,hid ((((Fr.refl _ w).alloc _).alloc _).drew)⟩
           ·exact(Below.heap_alloc _ _ _ (by simp)).trans (heap_alloc_new w _)
           ·rw[show(-(fr.length:Int))=(K:Int)-((K:Int)+(fr.length:Int)) by omega]
            have:=heap_alloc_new (w.alloc (.cells #[.bool false,.string ⟨#[]⟩,.int .i64 0] 194)) (.cells #[.bool m,.string (ofL (c::(t++fr))),.int .i64 ((K:Int)-((K:Int)+(fr.length:Int)))] 194);rw[World.size_alloc]at this;exact this
        ·rw[dcF a]
         have z:=hid (show A9i l=B4k m (c::t) [] k from by rw[Z.out,C5e,A4c a];rfl);have b5:=hid (show l.drop (p+(t.length+1))=k from by rw[<-List.drop_drop,o.out,<-X.out];simp);clear a;go_wp2;go_meet;refine⟨[],k,p+(t.length+1),by go_num,z,b5,by omega,by simp,hid ?_,hid ?_,hid (((Fr.refl _ w).alloc _).alloc _)⟩
         ·exact(Below.heap_alloc _ _ _ (by simp)).trans (heap_alloc_new w _)
         ·rw[List.append_nil]
          have:=heap_alloc_new (w.alloc (.cells #[.bool false,.string ⟨#[]⟩,.int .i64 0] 194)) (.cells #[.bool m,.string (ofL (c::t)),.int .i64 0] 194);rwa[World.size_alloc]at this
       case rest=>
        obtain⟨fr,u,n,rfl,b7,b8,c6,c3,c1,c2,hF⟩:=hcut
        go_step
        exact E7k l (c::t) fr u n m w wc _ _ _ _ _ _ _ _ _ _ _ _ _ _ _ _ _ _ _ _ _ _ _ _ _ _ _ _ _ _ _ _ _ _ _ _ _ _ _ _ _ _ _ _ _ _ _ _ _ _ _ _ _ _ _ _ _ _ _ _ _ _ _ _ _ _ _ _ _ _ _ _ _ _ _ _ _ _ _ _ _ _ _ _ _ _ _ _ _ _ _ _ _ _ _ _ _ _ _ _ _ _ _ _ _ _ _ _ _ _ _ _ _ _ _ _ _ _ _ _ _ _ _ _ _ _ _ _ _ _ _ _ _ _ _ _ _ _ _ _ _ _ _ _ _ _ _ _ _ _ _ _ hl b7 b8 c6 c3 c1 c2 hF
end Go.Proofs.YtmkkibaacclhnaaGreatDoor
