/-
  Part Sk.
-/
import Derived.Test.YtmkkibaacclhnaaGreatDoorSj
namespace Go.Proofs.YtmkkibaacclhnaaGreatDoor
open Go.RowKit
set_option maxRecDepth 100000
set_option maxHeartbeats 80000000
theorem F9b {l P a q:LU8} (h:P<:+l) (b:P=a++q):l.length-q.length=l.length-P.length+a.length/\(l.take (l.length-P.length+a.length)).drop (l.length-P.length)=a:=by
 obtain⟨t,rfl⟩:=h;subst b;have e:(t++(a++q)).length-(a++q).length=t.length:=by simp
 rw[e];constructor
 ·simp
  omega
 ·rw[show t.length+a.length=(t++a).length by simp,<-List.append_assoc,List.take_left,List.drop_left]
noncomputable def F5y (inn:Nat):NO->RV
 |.lost q=>.wrong 6 q
 |.stop t q=>if(A3n t).2≠0 then .wrong (A3n t).2 q else .ok 0 [⟨3,0,(A3n t).1,[]⟩] q
 |.ended t=>if(A3n t).2=0 then .ok 0 [⟨3,0,(A3n t).1,[]⟩] []else .ended (decide ((A3n t).2=6/\inn=0))
theorem F4d (inn:Nat) (r:LU8):A4v inn r=F5y inn (A5n t0 r):=by
 unfold A4v;cases A5n t0 r<;>rfl
theorem F9c {inn:Nat} {t:Tk} (h:A3n t=(0,3)):F5y inn (.ended t)=.ended false:=by
 show(if(A3n t).2=0 then RV.ok 0 [⟨3,0,(A3n t).1,[]⟩] []else .ended (decide ((A3n t).2=6/\inn=0)))=_
 rw[h];simp
theorem F9d {inn:Nat} {t:Tk} {q:LU8} (h:A3n t=(0,3)):F5y inn (.stop t q)=.wrong 3 q:=by
 show(if(A3n t).2≠0 then RV.wrong (A3n t).2 q else .ok 0 [⟨3,0,(A3n t).1,[]⟩] q)=_
 rw[h,if_pos (by decide)]
theorem F9e {inn:Nat} {t:Tk} (h:(A3n t).2=6):F5y inn (.ended t)=.ended (decide (inn=0)):=by
 show(if(A3n t).2=0 then RV.ok 0 [⟨3,0,(A3n t).1,[]⟩] []else .ended (decide ((A3n t).2=6/\inn=0)))=_
 rw[h,if_neg (by decide)];simp
theorem F9f {inn:Nat} {t:Tk} {q:LU8} (h:(A3n t).2=6):F5y inn (.stop t q)=.wrong 6 q:=by
 show(if(A3n t).2≠0 then RV.wrong (A3n t).2 q else .ok 0 [⟨3,0,(A3n t).1,[]⟩] q)=_
 rw[h,if_pos (by decide)]
theorem F9g {inn:Nat} {t:Tk} (h:(A3n t).2=0):F5y inn (.ended t)=.ok 0 [⟨3,0,(A3n t).1,[]⟩] []:=if_pos h
theorem F9h {inn:Nat} {t:Tk} {q:LU8} (h:(A3n t).2=0):F5y inn (.stop t q)=.ok 0 [⟨3,0,(A3n t).1,[]⟩] q:=if_neg (by rw[h];decide)
theorem F9i (inn:Nat):((inn:Int)==0)=decide (inn=0):=by
 by_cases a:inn=0
 ·rw[a];rfl
 ·rw[dcF a]
  exact bqF (by omega)
def G5n (B:Nat) (w0:World) (l P:LU8) (inn d:Nat) (vi:Value) (its:List It) (N:NO) (wr:World):Prop:=
 ∃pre p' t en,SC B w0 wr l p' inn d vi its 0 en false/\P=pre++p'/\run t0 pre=some t/\((en=true/\p'=[]/\N=.ended t)\/(en=false/\p'≠[]/\N=.stop t p'))
theorem E0f (B:Nat) (w0 w:World) (l P:LU8) (inn d:Nat) (vi:Value) (its:List It) (hl:l.length<=1800000) (k2:its.length<=100000000) (h:SC B w0 w l P inn d vi its 0 false false):
 Calls Tryz.prog 91 #[.pointer (some ⟨B,0,none⟩)] w (B1i B w0 l inn d its (A4v inn P)):=by
 obtain⟨a,n,cap,rfl⟩:=A0h h.oi;obtain rfl:=A1a h.oi;obtain⟨N,hN⟩:∃N,A5n t0 P=N:=⟨_,rfl⟩;obtain⟨V,hV⟩:∃V,A4v inn P=V:=⟨_,rfl⟩;have HV:=hid (show V=F5y inn N by rw[<-hV,<-hN];exact F4d inn P);have HN:=hid hN;rw[hV];have i9:=A0c l;have g0:=hid h.suf;have kP:=A0a h.blk (show(A0e l (l.length-P.length) inn d (.slice a its.length cap) 0 false false)[1]? =some (.int .i64 ((l.length-P.length:Nat):Int))from rfl);have i7:=h.at_;have H:=hid h;obtain⟨fr,f1⟩:∃fr,l.length-P.length=fr:=⟨_,rfl⟩;have j7:fr+P.length=l.length:=by omega
 rw[f1]at kP;have f6:=hid f1;clear h hN hV f1 i7;go_enter Tryz.func91,Tryz.ntmps91
 go_upto_block 0 with fail
 go_cut [3] (λf wr=>f=.int .i64 (fr:Int)/\Hid (G5n B w0 l P inn d (.slice a its.length cap) its N wr))
 case first=>
  go_wp2
  go_loopw [4] (λg wr=>∃p p' t,g=.bool (C2f t)/\Hid (SC B w0 wr l p' inn d (.slice a its.length cap) its 0 false false)/\Hid (P=p++p'/\run t0 p=some t/\A5n t p'=N/\G3c t)) (λ_ wr=>l.length-atOf wr B)
  case atStart=>exact⟨[],P,t0,rfl,H,hid ⟨rfl,rfl,HN.out,G4t⟩⟩
  case round=>
   clear kP;obtain⟨p,p',t,rfl,hI,hT⟩:=hrel;cases p' with
   |nil=>
    have HM:=hid (B0y B w0 _ l inn d (.slice a its.length cap) its 0 false false hI.out)
    go_wp2_with fail
    refine Calls.mono HM.out ?_;rintro x G ⟨rfl,hC⟩;have HC:=hid hC;clear hC;go_wp2;go_meet;exact⟨rfl,hid ⟨p,[],t,true,HC.out,hT.1,hT.2.1,.inl ⟨rfl,rfl,hT.2.2.1.symm⟩⟩⟩
   |cons x q=>
    have HM:=hid (A7v B w0 _ l x q inn d (.slice a its.length cap) its 0 false false hI.out);obtain⟨b7,b8⟩:=E7e g0.out hT.1;rw[f6.out]at b7 b8;have hA:=hid hI.atOf;have j6:x.toNat<256:=x.toNat_lt
    go_wp2_with fail
    refine Calls.mono HM.out ?_;rintro x2 G ⟨rfl,g1⟩;have Z:SC B w0 G l (x::q) inn d (.slice a its.length cap) its 0 false false:=g1▸hI.drew;clear g1;have k3:fr+p.length<l.length:=by have:=Z.at_;have h3:=congrArg List.length hT.1;simp at h3;omega
    obtain⟨i8,hg⟩:=A3i Z.suf;have k0:=A0a Z.blk (show(A0e l (l.length-(x::q).length) inn d (.slice a its.length cap) 0 false false)[0]? =some (.string (ofL l))from rfl);have k1:=A0a Z.blk (show(A0e l (l.length-(x::q).length) inn d (.slice a its.length cap) 0 false false)[1]? =some (.int .i64 ((l.length-(x::q).length:Nat):Int))from rfl);have j9:(ofL l)[l.length-(x::q).length]'(by rw[i9];exact i8)=x:=(A1d l _ _).trans hg;have c0:(ofL l).extract fr (fr+p.length+1)=ofL (p++[x]):=by rw[A0r,b8]
    have b4:=hid (λwx (hF:Fr (λ_=>False) G wx)=>(Z.same hF).step);have f8:=hid (λwx (hF:Fr (λ_=>False) G wx)=>A2m B w0 wx l (x::q) inn d (.slice a its.length cap) its 0 6 false false (Z.same hF));have Q:=hid (λwx (hF:Fr (λ_=>False) G wx)=>(show wx.cell? ⟨B,1,none⟩=some (.int .i64 ((l.length-(x::q).length:Nat):Int))from A0a (Z.same hF).blk rfl));have R:=hid (λwx (hF:Fr (λ_=>False) G wx)=>(show wx.frozen? ⟨B,1,none⟩=false from A0b (j:=1) (Z.same hF).blk));have h0:=hid Z;have d9:=B0x Z.suf;have d5:=b7;generalize l.length-(x::q).length=ps at*;rw[<-d5]at c0;have j8:fr<=ps:=by omega
    have f3:(p++[x]).length=ps+1-fr:=by simp;omega
    have z1:fr<=ps+1:=by omega
    have z2:ps+1<=l.length:=by omega
    have z3:(fr:Int)<=(ps:Int)+1:=by omega
    have z4:(ps:Int)+1<=(l.length:Int):=by omega
    have k5:IntKind.i64.wrap ((ps:Int)+1)=(ps:Int)+1:=IntWalk.i64_in ((ps:Int)+1) (by omega);have z8:(0:Int)<=(ps:Int)+1:=by omega
    have z9:(0:Int)<=(fr:Int):=by omega
    have z7:((ps:Int)+1).toNat=ps+1:=by omega
    have S:=hid (show run t0 (p++[x])=nxt t x from B7x x hT.2.1);have a7:=hid (show P=(p++[x])++q by rw[hT.1];simp);obtain⟨L,f5⟩:∃L,p++[x]=L:=⟨_,rfl⟩;rw[f5]at c0 f3 S a7;have j4:=hid f5;have j2:=A0c L;have j1:L.length<=1800000:=by omega
    have I:=hid (λw=>E7q L w (by omega));rw[S.out]at I;clear Z b7 b8 hg d5 f5;cases hn:nxt t x with
    |none=>
     rw[hn]at I;have HE:=hid (show N=.stop t (x::q) by rw[<-hT.2.2.1,A5n,hn]);clear hn;go_wp2;go_quiet (fail);go_wp2;go_quiet (fail)
     go_wp2_with fail
     refine Calls.mono (I.out _) ?_;rintro x3 r ⟨rfl,e⟩;have i6:=hid (h0.same (⟨e.os,e.tape,e.output,e.size,e.block⟩:Fr (λ_=>False) G r));clear e;go_wp2;go_meet;exact⟨rfl,hid ⟨p,x::q,t,false,i6.out,hT.1,hT.2.1,.inr ⟨rfl,by simp,HE.out⟩⟩⟩
    |some M=>
     rw[hn]at I S;obtain⟨s1,s2,s3,s4,s5⟩:=F4c hn hT.2.2.2;have a6:=hid (show(if A3b M=true then NO.lost (x::q)else A5n M q)=N by rw[<-hT.2.2.1,A5n,hn]);have a9:=hid s1;have h4:=hid hn;clear hn;by_cases he:x=101\/x=69
     ·obtain⟨a2,o⟩:=s2 he
      have U:=hid a2;have J:=hid (show A5n M q=N by rw[<-a6.out,if_neg (by rw[o];simp)]);clear s2 s3 s4 s5 o a2;rcases he with rfl|rfl
      ·go_wp2
       go_quiet (fail);go_wp2;go_quiet (fail)
       go_wp2_with fail
       refine Calls.mono (I.out _) ?_;rintro x3 r ⟨rfl,e⟩;have k:=hid (⟨e.os,e.tape,e.output,e.size,e.block⟩:Fr (λ_=>False) G r);have m1:=Q.out r k.out;have mf:=R.out r k.out;clear e;go_wp2;have hS:=b4.out _ k.out;exact⟨⟨L,q,M,by rw[U.out],hid hS,hid ⟨a7.out,S.out,J.out,a9.out⟩⟩,by rw[hS.atOf,hA.out,d9];omega⟩
      ·go_wp2
       go_quiet (fail);go_wp2;go_quiet (fail)
       go_wp2_with fail
       refine Calls.mono (I.out _) ?_;rintro x3 r ⟨rfl,e⟩;have k:=hid (⟨e.os,e.tape,e.output,e.size,e.block⟩:Fr (λ_=>False) G r);have m1:=Q.out r k.out;have mf:=R.out r k.out;clear e;go_wp2;have hS:=b4.out _ k.out;exact⟨⟨L,q,M,by rw[U.out],hid hS,hid ⟨a7.out,S.out,J.out,a9.out⟩⟩,by rw[hS.atOf,hA.out,d9];omega⟩
     have i1:((x.toNat:Int)==101)=false:=bqF (by intro h;exact he (.inl (UInt8.toNat_inj.1 (by simp;omega))));have i2:((x.toNat:Int)==69)=false:=bqF (by intro h;exact he (.inr (UInt8.toNat_inj.1 (by simp;omega))));cases a8:C2f t with
     |false=>
      obtain⟨a2,o⟩:=s5 he a8;have U:=hid a2;have J:=hid (show A5n M q=N by rw[<-a6.out,if_neg (by rw[o];simp)]);clear s2 s3 s4 s5 o a2 he;go_wp2;go_quiet (fail);go_wp2;go_quiet (fail)
      go_wp2_with fail
      refine Calls.mono (I.out _) ?_;rintro x3 r ⟨rfl,e⟩;have k:=hid (⟨e.os,e.tape,e.output,e.size,e.block⟩:Fr (λ_=>False) G r);have m1:=Q.out r k.out;have mf:=R.out r k.out;clear e;go_wp2;have hS:=b4.out _ k.out;exact⟨⟨L,q,M,by rw[U.out],hid hS,hid ⟨a7.out,S.out,J.out,a9.out⟩⟩,by rw[hS.atOf,hA.out,d9];omega⟩
     |true=>
      by_cases c6:x=45
      ·obtain⟨a2,o⟩:=s3 he a8 c6
       have U:=hid a2;have J:=hid (show A5n M q=N by rw[<-a6.out,if_neg (by rw[o];simp)]);clear s2 s3 s4 s5 o a2 he;subst c6;go_wp2;go_quiet (fail);go_wp2;go_quiet (fail)
       go_wp2_with fail
       refine Calls.mono (I.out _) ?_;rintro x3 r ⟨rfl,e⟩;have k:=hid (⟨e.os,e.tape,e.output,e.size,e.block⟩:Fr (λ_=>False) G r);have m1:=Q.out r k.out;have mf:=R.out r k.out;clear e;go_wp2;have hS:=b4.out _ k.out;exact⟨⟨L,q,M,by rw[U.out],hid hS,hid ⟨a7.out,S.out,J.out,a9.out⟩⟩,by rw[hS.atOf,hA.out,d9];omega⟩
      ·obtain⟨a2,o,d6⟩:=s4 he a8 c6
       have i3:((x.toNat:Int)==45)=false:=bqF (by have:=A0k c6;simp at this;omega);have U:=hid a2;have s:=hid (show(B6n L&&A7c (if M.st=7 then L++[48]else L))=A3b M by rw[o];exact E7u w (by omega) S.out (by rcases d6 with h|h;exact .inl h;exact .inr h.1));have a5:=hid (λw=>F3z L w (by omega));clear s2 s3 s4 s5 o a2 he;by_cases d0:x=43
       ·have h7:M.st=7:=by
         rcases d6 with h|h
         ·exfalso
          obtain⟨b1,b2⟩:=F5x h4.out;rw[b2,A9e]at h;have:=(D6h (st:=t.st) (c:=x)).2.2.1 h;rw[d0]at this;exact absurd this.2.2 (by decide)
         ·exact h.1
        rw[if_pos h7]at s;have j5:ofL L++(ByteArray.mk #[48])=ofL (L++[48]):=A0j L [48];have v:=hid (λw=>C1c (L++[48]) w (by simp;omega));generalize L++[48]=wh at*;subst d0;clear d6 c6;cases a4:B6n L with
        |false=>
         rw[a4]at s a5;have o:A3b M=false:=by rw[<-s.out];rfl
         have J:=hid (show A5n M q=N by rw[<-a6.out,if_neg (by rw[o];simp)]);clear a4 o s;go_wp2;go_quiet (fail);go_wp2;go_quiet (fail)
         go_wp2_with fail
         refine Calls.mono (I.out _) ?_;rintro x3 r ⟨rfl,e⟩;have k:=hid (⟨e.os,e.tape,e.output,e.size,e.block⟩:Fr (λ_=>False) G r);have m1:=Q.out r k.out;have mf:=R.out r k.out;clear e
         go_wp2_with fail
         refine Calls.mono (a5.out _) ?_;rintro x4 w4 ⟨rfl,rfl⟩;go_wp2;have hS:=b4.out _ k.out;exact⟨⟨L,q,M,by rw[U.out],hid hS,hid ⟨a7.out,S.out,J.out,a9.out⟩⟩,by rw[hS.atOf,hA.out];have:=B0x hI.suf;omega⟩
        |true=>
         rw[a4]at s a5;cases E:A7c wh with
         |false=>
          rw[E]at s v;have o:A3b M=false:=by rw[<-s.out];rfl
          have J:=hid (show A5n M q=N by rw[<-a6.out,if_neg (by rw[o];simp)]);clear a4 E o s;go_wp2;go_quiet (fail);go_wp2;go_quiet (fail)
          go_wp2_with fail
          refine Calls.mono (I.out _) ?_;rintro x3 r ⟨rfl,e⟩;have k:=hid (⟨e.os,e.tape,e.output,e.size,e.block⟩:Fr (λ_=>False) G r);have m1:=Q.out r k.out;have mf:=R.out r k.out;clear e
          go_wp2_with fail
          refine Calls.mono (a5.out _) ?_;rintro x4 w4 ⟨rfl,rfl⟩
          go_wp2_with fail
          refine Calls.mono (v.out _) ?_;rintro x5 w5 ⟨rfl,Y⟩;have T:=hid (k.trans Y);have n1:=Q.out w5 T.out;have nf:=R.out w5 T.out;clear Y m1 mf;go_wp2;have hS:=b4.out _ T.out;exact⟨⟨L,q,M,by rw[U.out],hid hS,hid ⟨a7.out,S.out,J.out,a9.out⟩⟩,by rw[hS.atOf,hA.out];have:=B0x hI.suf;omega⟩
         |true=>
          rw[E]at s v;have HE:=hid (show N=.lost (43::q) by rw[<-a6.out,if_pos (by rw[<-s.out];rfl)]);clear a4 E s;go_wp2;go_quiet (fail);go_wp2;go_quiet (fail)
          go_wp2_with fail
          refine Calls.mono (I.out _) ?_;rintro x3 r ⟨rfl,e⟩;have k:=hid (⟨e.os,e.tape,e.output,e.size,e.block⟩:Fr (λ_=>False) G r);have m1:=Q.out r k.out;have mf:=R.out r k.out;clear e
          go_wp2_with fail
          refine Calls.mono (a5.out _) ?_;rintro x4 w4 ⟨rfl,rfl⟩
          go_wp2_with fail
          refine Calls.mono (v.out _) ?_;rintro x5 w5 ⟨rfl,Y⟩;have T:=hid (k.trans Y);clear Y m1 mf
          go_wp2_with fail
          refine Calls.mono (f8.out w5 T.out) ?_;rintro x6 w6 ⟨rfl,hC⟩;have HC:=hid hC;clear hC;go_wp2;go_ret;rw[HV.out,HE.out];exact⟨rfl,_,[],by rw[List.append_nil];exact HC.out⟩
       ·have i4:((x.toNat:Int)==43)=false:=bqF (by have:=A0k d0;simp at this;omega)
        have h7:¬M.st=7:=λh=>by
         rcases d6 with h8|h8
         ·omega
         ·exact d0 h8.2
        rw[if_neg h7]at s;have v:=hid (λw=>C1c L w (by omega));clear d6 c6 d0 h7;cases a4:B6n L with
        |false=>
         rw[a4]at s a5;have o:A3b M=false:=by rw[<-s.out];rfl
         have J:=hid (show A5n M q=N by rw[<-a6.out,if_neg (by rw[o];simp)]);clear a4 o s;go_wp2;go_quiet (fail);go_wp2;go_quiet (fail)
         go_wp2_with fail
         refine Calls.mono (I.out _) ?_;rintro x3 r ⟨rfl,e⟩;have k:=hid (⟨e.os,e.tape,e.output,e.size,e.block⟩:Fr (λ_=>False) G r);have m1:=Q.out r k.out;have mf:=R.out r k.out;clear e
         go_wp2_with fail
         refine Calls.mono (a5.out _) ?_;rintro x4 w4 ⟨rfl,rfl⟩;go_wp2;have hS:=b4.out _ k.out;exact⟨⟨L,q,M,by rw[U.out],hid hS,hid ⟨a7.out,S.out,J.out,a9.out⟩⟩,by rw[hS.atOf,hA.out];have:=B0x hI.suf;omega⟩
        |true=>
         rw[a4]at s a5;cases E:A7c L with
         |false=>
          rw[E]at s v;have o:A3b M=false:=by rw[<-s.out];rfl
          have J:=hid (show A5n M q=N by rw[<-a6.out,if_neg (by rw[o];simp)]);clear a4 E o s;go_wp2;go_quiet (fail);go_wp2;go_quiet (fail)
          go_wp2_with fail
          refine Calls.mono (I.out _) ?_;rintro x3 r ⟨rfl,e⟩;have k:=hid (⟨e.os,e.tape,e.output,e.size,e.block⟩:Fr (λ_=>False) G r);have m1:=Q.out r k.out;have mf:=R.out r k.out;clear e
          go_wp2_with fail
          refine Calls.mono (a5.out _) ?_;rintro x4 w4 ⟨rfl,rfl⟩
          go_wp2_with fail
          refine Calls.mono (v.out _) ?_;rintro x5 w5 ⟨rfl,Y⟩;have T:=hid (k.trans Y);have n1:=Q.out w5 T.out;have nf:=R.out w5 T.out;clear Y m1 mf;go_wp2;have hS:=b4.out _ T.out;exact⟨⟨L,q,M,by rw[U.out],hid hS,hid ⟨a7.out,S.out,J.out,a9.out⟩⟩,by rw[hS.atOf,hA.out];have:=B0x hI.suf;omega⟩
         |true=>
          rw[E]at s v;have HE:=hid (show N=.lost (x::q) by rw[<-a6.out,if_pos (by rw[<-s.out];rfl)]);clear a4 E s;go_wp2;go_quiet (fail);go_wp2;go_quiet (fail)
          go_wp2_with fail
          refine Calls.mono (I.out _) ?_;rintro x3 r ⟨rfl,e⟩;have k:=hid (⟨e.os,e.tape,e.output,e.size,e.block⟩:Fr (λ_=>False) G r);have m1:=Q.out r k.out;have mf:=R.out r k.out;clear e
          go_wp2_with fail
          refine Calls.mono (a5.out _) ?_;rintro x4 w4 ⟨rfl,rfl⟩
          go_wp2_with fail
          refine Calls.mono (v.out _) ?_;rintro x5 w5 ⟨rfl,Y⟩;have T:=hid (k.trans Y);clear Y m1 mf
          go_wp2_with fail
          refine Calls.mono (f8.out w5 T.out) ?_;rintro x6 w6 ⟨rfl,hC⟩;have HC:=hid hC;clear hC;go_wp2;go_ret;rw[HV.out,HE.out];exact⟨rfl,_,[],by rw[List.append_nil];exact HC.out⟩
 case rest=>
  obtain⟨rfl,hcut⟩:=hcut;obtain⟨p,p',t,en,hC,f0,hr,f2⟩:=hcut.out;clear kP;obtain⟨b7,b8⟩:=F9b g0.out f0;rw[f6.out]at b7 b8;have z:=congrArg List.length f0;rw[List.length_append]at z;have k0:=A0a hC.blk (show(A0e l (l.length-p'.length) inn d (.slice a its.length cap) 0 en false)[0]? =some (.string (ofL l))from rfl);have k1:=A0a hC.blk (show(A0e l (l.length-p'.length) inn d (.slice a its.length cap) 0 en false)[1]? =some (.int .i64 ((l.length-p'.length:Nat):Int))from rfl);rw[b7]at k1;have c0:(ofL l).extract fr (fr+p.length)=ofL p:=by rw[A0r,b8]
  obtain⟨ps,d5⟩:∃ps,fr+p.length=ps:=⟨_,rfl⟩;rw[d5]at k1 c0;have z1:fr<=ps:=by omega
  have z2:ps<=l.length:=by omega
  have z3:(fr:Int)<=(ps:Int):=by omega
  have z4:(ps:Int)<=(l.length:Int):=by omega
  have k4:p.length<=1800000:=by omega
  have c7:=hid (λwx (hF:Fr (λ_=>False) wc wx)=>hC.same hF);have c5:=hid (λw=>A9q p w (by omega));have v:=hid (λw=>C1c p w (by omega));have d8:=hid (λw=>E0d p w (by omega));have HR:=hid hr;have a8:=E7s hr;clear f0 b7 b8 z d5 hr hC;cases hc:A9i p with
  |none=>
   have c8:=hid (show A3n t=(0,3)from C0k (B8i hc HR.out));have f9:A7c p=false:=C4c hc;rw[f9]at v;have HC:=hid hc;clear f9 a8 d8 hc;rcases f2 with⟨rfl,rfl,A⟩|⟨rfl,d4,A⟩
   ·have W:=hid A
    clear A;go_wp2;go_quiet (fail)
    go_wp2_with fail
    refine Calls.mono (c5.out _) ?_;rintro x1 w1 ⟨⟨z,K⟩,i⟩;have F1:=hid (⟨i.os,i.tape,i.output,i.size,i.block⟩:Fr (λ_=>False) wc w1);obtain⟨mm,D,X,rfl⟩:=K HC.out;clear z K i
    go_wp2_with fail
    refine Calls.mono (v.out _) ?_;rintro x2 G ⟨rfl,y⟩;have m:=c7.out G ((F1.alloc _).trans y);have e6:=A0a m.blk (show(A0e l (l.length-([]:LU8).length) inn d (.slice a its.length cap) 0 true false)[6]? =some (.bool true)from rfl);have e2:=A0a m.blk (show(A0e l (l.length-([]:LU8).length) inn d (.slice a its.length cap) 0 true false)[2]? =some (.int .i64 (inn:Int))from rfl);have e7:=A0a m.blk (show(A0e l (l.length-([]:LU8).length) inn d (.slice a its.length cap) 0 true false)[7]? =some (.bool false)from rfl);have g7:=A0b (j:=7) m.blk;have g6:=A0b (j:=6) m.blk;have b5:=hid m;clear y m;go_wp2;go_ret;rw[HV.out,W.out,F9c c8.out];exact⟨rfl,_,[],by rw[List.append_nil];exact b5.out⟩
   ·have W:=hid A
    clear A d4;go_wp2;go_quiet (fail)
    go_wp2_with fail
    refine Calls.mono (c5.out _) ?_;rintro x1 w1 ⟨⟨z,K⟩,i⟩;have F1:=hid (⟨i.os,i.tape,i.output,i.size,i.block⟩:Fr (λ_=>False) wc w1);obtain⟨mm,D,X,rfl⟩:=K HC.out;clear z K i
    go_wp2_with fail
    refine Calls.mono (v.out _) ?_;rintro x2 G ⟨rfl,y⟩;have m:=c7.out G ((F1.alloc _).trans y);have e6:=A0a m.blk (show(A0e l (l.length-p'.length) inn d (.slice a its.length cap) 0 false false)[6]? =some (.bool false)from rfl);have e2:=A0a m.blk (show(A0e l (l.length-p'.length) inn d (.slice a its.length cap) 0 false false)[2]? =some (.int .i64 (inn:Int))from rfl);have e7:=A0a m.blk (show(A0e l (l.length-p'.length) inn d (.slice a its.length cap) 0 false false)[7]? =some (.bool false)from rfl);have g7:=A0b (j:=7) m.blk;have g6:=A0b (j:=6) m.blk;have e1:=hid (A2m B w0 G l p' inn d (.slice a its.length cap) its 0 3 false false m);clear y m
    go_wp2_with fail
    refine Calls.mono e1.out ?_;rintro x3 r ⟨rfl,d1⟩;have e0:=hid d1;clear d1;go_wp2;go_ret;rw[HV.out,W.out,F9d c8.out];exact⟨rfl,_,[],by rw[List.append_nil];exact e0.out⟩
  |some xx=>
   obtain⟨neg,wh,C,O,ex⟩:=xx;have HC:=hid hc
   have hE:A8b t.st:=by
    obtain⟨M,r',h1,h2,_⟩:=B5f w (by omega) hc;rw[HR.out]at h1;cases h1;exact h2
   clear hc;cases E:A7c p with
   |true=>
    have c8:=hid (show(A3n t).2=6 from of_decide_eq_true (a8.symm.trans E));rw[E]at v;clear E a8 d8 hE;rcases f2 with⟨rfl,rfl,A⟩|⟨rfl,d4,A⟩
    ·have W:=hid A
     clear A;have HD:=hid (F9i inn);go_wp2;go_quiet (fail)
     go_wp2_with fail
     refine Calls.mono (c5.out _) ?_;rintro x1 w1 ⟨⟨z,K⟩,i⟩;have F1:=hid (⟨i.os,i.tape,i.output,i.size,i.block⟩:Fr (λ_=>False) wc w1);obtain rfl:=z _ _ _ _ _ HC.out;clear z K i;have hX:B4b neg wh C O ex=.agg #[.bool neg,.string (ofL (wh++C)),.int .i64 (A3m C O ex)]:=rfl;rw[hX];generalize A3m C O ex=XX at*;clear hX
     go_wp2_with fail
     refine Calls.mono (v.out _) ?_;rintro x2 G ⟨rfl,y⟩;have m:=c7.out G ((F1.alloc _).trans y);have e6:=A0a m.blk (show(A0e l (l.length-([]:LU8).length) inn d (.slice a its.length cap) 0 true false)[6]? =some (.bool true)from rfl);have e2:=A0a m.blk (show(A0e l (l.length-([]:LU8).length) inn d (.slice a its.length cap) 0 true false)[2]? =some (.int .i64 (inn:Int))from rfl);have e7:=A0a m.blk (show(A0e l (l.length-([]:LU8).length) inn d (.slice a its.length cap) 0 true false)[7]? =some (.bool false)from rfl);have g7:=A0b (j:=7) m.blk;have g6:=A0b (j:=6) m.blk;have b5:=hid (m.cell 7 (.bool ((inn:Int)==0)) (p':=[]) (inn':=inn) (e':=0) (en':=true) (la':=((inn:Int)==0)) m.suf rfl);clear y m;go_wp2;go_ret;rw[HV.out,W.out,F9e c8.out,<-HD.out];exact⟨rfl,_,[],by rw[List.append_nil];exact b5.out⟩
    ·have W:=hid A
     clear A d4;go_wp2;go_quiet (fail)
     go_wp2_with fail
     refine Calls.mono (c5.out _) ?_;rintro x1 w1 ⟨⟨z,K⟩,i⟩;have F1:=hid (⟨i.os,i.tape,i.output,i.size,i.block⟩:Fr (λ_=>False) wc w1);obtain rfl:=z _ _ _ _ _ HC.out;clear z K i;have hX:B4b neg wh C O ex=.agg #[.bool neg,.string (ofL (wh++C)),.int .i64 (A3m C O ex)]:=rfl;rw[hX];generalize A3m C O ex=XX at*;clear hX
     go_wp2_with fail
     refine Calls.mono (v.out _) ?_;rintro x2 G ⟨rfl,y⟩;have m:=c7.out G ((F1.alloc _).trans y);have e6:=A0a m.blk (show(A0e l (l.length-p'.length) inn d (.slice a its.length cap) 0 false false)[6]? =some (.bool false)from rfl);have e2:=A0a m.blk (show(A0e l (l.length-p'.length) inn d (.slice a its.length cap) 0 false false)[2]? =some (.int .i64 (inn:Int))from rfl);have e7:=A0a m.blk (show(A0e l (l.length-p'.length) inn d (.slice a its.length cap) 0 false false)[7]? =some (.bool false)from rfl);have g7:=A0b (j:=7) m.blk;have g6:=A0b (j:=6) m.blk;have e1:=hid (A2m B w0 G l p' inn d (.slice a its.length cap) its 0 6 false false m);clear y m
     go_wp2_with fail
     refine Calls.mono e1.out ?_;rintro x3 r ⟨rfl,d1⟩;have e0:=hid d1;clear d1;go_wp2;go_ret;rw[HV.out,W.out,F9f c8.out];exact⟨rfl,_,[],by rw[List.append_nil];exact e0.out⟩
   |false=>
    have f7:=hid (show(A3n t).2≠6 from of_decide_eq_false (a8.symm.trans E));rw[E]at v;have j3:=hid hE;clear E a8 hE;obtain⟨i0,hi,g2,g3,g5⟩:=info_parts Tryz.info29;rcases f2 with⟨rfl,rfl,A⟩|⟨rfl,d4,A⟩
    ·have W:=hid A
     clear A;go_wp2;go_quiet (fail)
     go_wp2_with fail
     refine Calls.mono (c5.out _) ?_;rintro x1 w1 ⟨⟨z,K⟩,i⟩;have F1:=hid (⟨i.os,i.tape,i.output,i.size,i.block⟩:Fr (λ_=>False) wc w1);obtain rfl:=z _ _ _ _ _ HC.out;clear z K i;have hX:B4b neg wh C O ex=.agg #[.bool neg,.string (ofL (wh++C)),.int .i64 (A3m C O ex)]:=rfl;rw[hX];generalize A3m C O ex=XX at*;clear hX
     go_wp2_with fail
     refine Calls.mono (v.out _) ?_;rintro x2 G ⟨rfl,y⟩;have m:=c7.out G ((F1.alloc _).trans y);have b5:=hid m;have g9:=hid ((F1.alloc _).trans y);clear y m
     go_wp2_with fail
     refine Calls.mono (d8.out _) ?_;rintro x3 r ⟨f4,e⟩;have a1:=b5.same e;rcases f4 with⟨b0,_⟩|⟨g8,j0,i5,h5,h9,r3,d2,d3,rfl⟩
     ·rw[HC.out]at b0
      cases b0
     have b9:=E7r w (by omega) HR.out d2 d3
     have e9:=hid (show(A3n t).2=0 by
      have h6:=f7.out;rw[b9.2]at h6 ⊢
      exact(A8f _ _).2.2 (λhh=>h6 ((A8f _ _).1.2 hh)))
     have e3:=hid (F9g (inn:=inn) (t:=t) e9.out);rw[<-b9.2];generalize hb:(A3n t).1=b at*;generalize (A3n t).2=b2 at*;have d7:=a1.oi;have e4:=A0a a1.blk (show(A0e l (l.length-([]:LU8).length) inn d (.slice a its.length cap) 0 true false)[4]? =some (.slice a its.length cap)from rfl);have g4:=A0b (j:=4) a1.blk;have e8:=hid a1;clear e d2 d3 b9 hb a1
     go_wp2_with (first
      |(at_builtin;refine A0g _ rfl _ _ 22 rfl 29 i0 (.agg #[.int .i64 0,.int .i64 0,.int .u64 0,.string ⟨#[]⟩]) 4 40 Tryz.underlying22 hi g2 g3 g5 rfl (by decide) _ _ _ rfl (d7.alloc _) ⟨r.heap.size,0,none⟩ 1 1 (A1f ⟨3,0,b,[]⟩) rfl rfl ?c1 ?c2 ?c3 ?c4 ?_)
      |fail)
     case c1=>exact A3p _ _ _ _ _ _
     case c2=>intro u hu;simp[A1f]at hu;rcases hu with rfl|rfl|rfl|rfl<;>rfl
     case c3=>unfold maxLen;omega
     case c4=>omega
     intro v' w4 F a3 b3;obtain⟨a',n',c9,rfl⟩:=A0h F;obtain⟨b6,a0⟩:=e8.growI ⟨3,0,b,[]⟩ F a3 b3;have q4:=A0a b6 (show(A0e l (l.length-([]:LU8).length) inn d (.slice a its.length cap) 0 true false)[4]? =some (.slice a its.length cap)from rfl);have p4:=A0b (j:=4) b6;have q6:=A0a a0.blk (show(A0e l (l.length-([]:LU8).length) inn d (.slice a' n' c9) 0 true false)[6]? =some (.bool true)from rfl);have p6:=A0b (j:=6) a0.blk;have e5:=hid (a0.cell 6 (.bool false) (p':=[]) (inn':=inn) (e':=0) (en':=false) (la':=false) a0.suf rfl);clear F a3 b3 b6 a0 d7 e4 g4;go_wp2;go_ret;rw[HV.out,W.out,e3.out];exact⟨rfl,_,e5.out⟩
    ·have W:=hid A
     clear A d4;go_wp2;go_quiet (fail)
     go_wp2_with fail
     refine Calls.mono (c5.out _) ?_;rintro x1 w1 ⟨⟨z,K⟩,i⟩;have F1:=hid (⟨i.os,i.tape,i.output,i.size,i.block⟩:Fr (λ_=>False) wc w1);obtain rfl:=z _ _ _ _ _ HC.out;clear z K i;have hX:B4b neg wh C O ex=.agg #[.bool neg,.string (ofL (wh++C)),.int .i64 (A3m C O ex)]:=rfl;rw[hX];generalize A3m C O ex=XX at*;clear hX
     go_wp2_with fail
     refine Calls.mono (v.out _) ?_;rintro x2 G ⟨rfl,y⟩;have m:=c7.out G ((F1.alloc _).trans y);have b5:=hid m;have g9:=hid ((F1.alloc _).trans y);clear y m
     go_wp2_with fail
     refine Calls.mono (d8.out _) ?_;rintro x3 r ⟨f4,e⟩;have a1:=b5.same e;rcases f4 with⟨b0,_⟩|⟨g8,j0,i5,h5,h9,r3,d2,d3,rfl⟩
     ·rw[HC.out]at b0
      cases b0
     have b9:=E7r w (by omega) HR.out d2 d3
     have e9:=hid (show(A3n t).2=0 by
      have h6:=f7.out;rw[b9.2]at h6 ⊢
      exact(A8f _ _).2.2 (λhh=>h6 ((A8f _ _).1.2 hh)))
     have e3:=hid (F9h (inn:=inn) (t:=t) (q:=p') e9.out);rw[<-b9.2];generalize hb:(A3n t).1=b at*;generalize (A3n t).2=b2 at*;have d7:=a1.oi;have e4:=A0a a1.blk (show(A0e l (l.length-p'.length) inn d (.slice a its.length cap) 0 false false)[4]? =some (.slice a its.length cap)from rfl);have g4:=A0b (j:=4) a1.blk;have e8:=hid a1;clear e d2 d3 b9 hb a1
     go_wp2_with (first
      |(at_builtin;refine A0g _ rfl _ _ 22 rfl 29 i0 (.agg #[.int .i64 0,.int .i64 0,.int .u64 0,.string ⟨#[]⟩]) 4 40 Tryz.underlying22 hi g2 g3 g5 rfl (by decide) _ _ _ rfl (d7.alloc _) ⟨r.heap.size,0,none⟩ 1 1 (A1f ⟨3,0,b,[]⟩) rfl rfl ?c1 ?c2 ?c3 ?c4 ?_)
      |fail)
     case c1=>exact A3p _ _ _ _ _ _
     case c2=>intro u hu;simp[A1f]at hu;rcases hu with rfl|rfl|rfl|rfl<;>rfl
     case c3=>unfold maxLen;omega
     case c4=>omega
     intro v' w4 F a3 b3;obtain⟨a',n',c9,rfl⟩:=A0h F;obtain⟨b6,a0⟩:=e8.growI ⟨3,0,b,[]⟩ F a3 b3;have q4:=A0a b6 (show(A0e l (l.length-p'.length) inn d (.slice a its.length cap) 0 false false)[4]? =some (.slice a its.length cap)from rfl);have p4:=A0b (j:=4) b6;have q6:=A0a a0.blk (show(A0e l (l.length-p'.length) inn d (.slice a' n' c9) 0 false false)[6]? =some (.bool false)from rfl);have p6:=A0b (j:=6) a0.blk;have e5:=hid (a0.cell 6 (.bool false) (p':=p') (inn':=inn) (e':=0) (en':=false) (la':=false) a0.suf rfl);clear F a3 b3 b6 a0 d7 e4 g4;go_wp2;go_ret;rw[HV.out,W.out,e3.out];exact⟨rfl,_,e5.out⟩
end Go.Proofs.YtmkkibaacclhnaaGreatDoor
