/-
  Part Vc.
-/
import Derived.Test.YtmkkibaacclhnaaGreatDoorVb
namespace Go.Proofs.YtmkkibaacclhnaaGreatDoor
open Go.RowKit
set_option maxRecDepth 100000
set_option maxHeartbeats 32000000
theorem G2q (d:Nat) (IH:G4p d) (w:World) (ad:Addr) (cap inn:Nat) (n:Int) (b:Nat) (s:LU8) (r:List Im) (indent:Int) (so:Bool) (h4:d+1+inn=1000) (h:LR w (some ad) (⟨6,n,b,s⟩::r)) (j4:r.length+1<=cap) (hc:cap<=9223372036854775807) (l4:r.length+1<=10000000) (hs:∀y,y∈(⟨6,n,b,s⟩:Im)::r->y.s.length<=100000000) (hb:Bok (⟨6,n,b,s⟩::r)) (l9: -1<=indent) (c6:indent<=16) (hg:A0z ⟨6,n,b,s⟩=true) (b9:A0i (d+1) (⟨6,n,b,s⟩::r)≠0) (g4:wgt (⟨6,n,b,s⟩::r)<=100000000000):
 Calls Tryz.prog 47 #[.slice (some ad) (r.length+1) cap,.int .i64 indent,.bool so,.int .i64 (inn:Int)] w λe w'=>e=.returned (.string (ofL (wrD indent so (d+1) (⟨6,n,b,s⟩::r))))/\Fr (λ_=>False) w w':=by
 have k6:0<=n:=(A5i hg (by simp)).2;obtain⟨N,rfl⟩:∃N:Nat,n=(N:Int):=⟨n.toNat,by omega⟩;obtain⟨F,hW,g6,h2⟩:=D0n w d inn ⟨6,(N:Int),b,s⟩ r N indent so true h4 c6 hb hg (by simp) rfl rfl b9;rw[hW];obtain⟨U,hU⟩:∃U,A7w indent inn true (F.map (·.2))=U:=⟨_,rfl⟩;rw[hU];have HU:=hid hU;clear hU;obtain⟨l,hl⟩:∃l,(⟨6,(N:Int),b,s⟩:Im)::r=l:=⟨_,rfl⟩;have h0:=hid (show LR w (some ad) l from by rw[<-hl];exact h);obtain⟨c0,c1,c2,c3⟩:=h.at0
 try simp only at c0 c1 c2 c3
 have g1:l.length=r.length+1:=by rw[<-hl];rfl
 obtain⟨L,hL⟩:∃L,r.length+1=L:=⟨_,rfl⟩;rw[hL]at g1 j4 l4;have c4:=hid g1;rw[hl]at g6 h2 g4;have f4:=hid (show tot F<=100000000000 from by omega);have j1:=hid g6;have p7:1<=L:=by omega
 rw[hL];have p5:IntKind.i64.wrap ((inn:Int)+1)=(inn:Int)+1:=IntWalk.i64_in _ (by omega);have o0:(0:Int)<(L:Int):=by omega
 have g8:=hid (show∀y,y∈l->y.s.length<=100000000 from by rw[<-hl];exact hs);have k7:=hid (show Bok l from by rw[<-hl];exact hb);have d2:=hid (show d+(inn+1)=1000 from by omega);have k9:=hid g4
 have f8:=hid (λ(u:World) (a:Nat) (hf:Fr (λ_=>False) w u) (ha:a<L) (hz:A0i d (l.drop a)≠0)=>(show Calls Tryz.prog 47 #[.slice (some (ad.add (a*4))) (L-a) (cap-a),.int .i64 indent,.bool so,.int .i64 ((inn+1:Nat):Int)] u λe w'=>e=.returned (.string (ofL (wrD indent so d (l.drop a))))/\Fr (λ_=>False) u w' from by
  have:=IH u (some (ad.add (a*4))) (cap-a) (inn+1) (l.drop a) indent so d2.out ((h0.fr hf).drop a) (by have:=c4.out;rw[List.length_drop];omega) (by omega) (by have:=c4.out;rw[List.length_drop];omega) (λy hy=>g8.out y (List.mem_of_mem_drop hy)) (k7.drop a) l9 c6 hz (Nat.le_trans (C0r l a) k9.out);rw[List.length_drop,c4.out]at this
  exact this))
 have g3:=hid (λ(u:World) (a:Nat) (hf:Fr (λ_=>False) w u) (ha:a<L)=>(show Calls Tryz.prog 46 #[.slice (some (ad.add (a*4))) (L-a) (cap-a),.int .i64 ((inn+1:Nat):Int)] u λe w'=>e=.returned (.int .i64 ((A0i d (l.drop a):Nat):Int))/\Fr (λ_=>False) u w' from by
  have:=C6a d u (some (ad.add (a*4))) (cap-a) (inn+1) (l.drop a) d2.out ((h0.fr hf).drop a) (by have:=c4.out;rw[List.length_drop];omega) (by omega) (λy hy=>g8.out y (List.mem_of_mem_drop hy));rw[List.length_drop,c4.out]at this
  exact this))
 have i5:=hid (Fr.refl (λ_=>False) (w.alloc (.cells #[.int .i64 6,.int .i64 (N:Int),.int .u64 (b:Int),.string (ofL s)] 29)));have b1:=hid ((Fr.refl (λ_=>False) w).alloc (.cells #[.int .i64 6,.int .i64 (N:Int),.int .u64 (b:Int),.string (ofL s)] 29));have HX:=hid (λ(u:World) hf=>D0m w (.int .i64 6) (.int .i64 (N:Int)) (.int .u64 (b:Int)) (.string (ofL s)) 29 u hf);have f7:=hid (SP.nil (w.alloc (.cells #[.int .i64 6,.int .i64 (N:Int),.int .u64 (b:Int),.string (ofL s)] 29)));have f3:=hid (λ(k:Nat) (u:World) (hk:k<=inn+1)=>D0k indent k u c6 (by omega));have n4:(inn:Int)+1=((inn+1:Nat):Int):=by omega
 clear h hs hg hl g1 hL k6 hb b9 g4 h2 g6 hW IH;go_enter Tryz.func47,Tryz.ntmps47;go_wp2
 go_loopw [12,13,14,15] (λp q s2 t wr=>∃(pa:Option Addr) (pc:Nat) (ka:Option Addr) (kc a i:Nat) (o:List KT),i+1<=a/\a<=L/\i<=N/\p=.slice pa i pc/\q=.slice ka i kc/\s2=.int .i64 (a:Int)/\t=.int .i64 (i:Int)/\Hid (InvW d indent so true N l F i a o)/\Hid (SP wr (.slice pa i pc) (o.map (·.2)))/\Hid (SP wr (.slice ka i kc) (o.map (·.1)))/\Hid (Fr (λ_=>False) (w.alloc (.cells #[.int .i64 6,.int .i64 (N:Int),.int .u64 (b:Int),.string (ofL s)] 29)) wr)) (λ_ _ _ t _=>N-(intOf t).toNat)
 case atStart=>exact⟨none,0,none,0,1,0,[],by omega,by omega,by omega,rfl,rfl,by go_num,by go_num,j1,f7,f7,i5⟩
 case round=>
  clear c0 c1 c2 c3 j1 f7 i5;obtain⟨pa,pc,ka,kc,a,i,o,p3,p1,p2,rfl,rfl,rfl,rfl,hI,hP,hK,hF⟩:=hrel;obtain⟨x0,x1⟩:=HX.out wr hF.out;by_cases k8:i<N
  ·have o6:(i:Int)<(N:Int):=by omega
   obtain⟨y,n1,k5,hy,b9,a9,hT,j5⟩:=hI.obj k8;rw[c4.out]at a9;have a5:=hid j5;have n0:a<L:=by omega
   have e0:a+1<L:=by omega
   have HW:=hid (λu hf=>f8.out u (a+1) hf e0 (by rw[b9];omega));have HS:=hid (λu hf=>g3.out u (a+1) hf e0);rw[b9]at HS;obtain⟨q0,q1,q2,q3⟩:=((h0.fr (b1.trans hF.out)).at_ hy);have i6:=g8.out y (List.mem_of_getElem? hy);have k4:=A8t y.s;have HQ:=hid (λu=>C3k y.s u i6);obtain⟨ys,e9⟩:∃ys,y.s=ys:=⟨_,rfl⟩;rw[e9]at HQ i6 k4 q3 a5 hT;obtain⟨T,j9⟩:∃T,wrD indent so d (l.drop (a+1))=T:=⟨_,rfl⟩;rw[j9]at HW a5 hT;have I:=hid hI.n;have l8:(A7h indent ys++T).length<=100000000000:=Nat.le_trans hT f4.out;have p0:(ofL T).size=T.length:=A0c T;have o7:(ofL (A7h indent ys)).size=(A7h indent ys).length:=A0c _;have d3:ofL (A7h indent ys)++ofL T=ofL (A7h indent ys++T):=A0j _ _;rw[List.length_append]at l8;have B:=hid (λ(u:World) (k:Nat) (hk:k<=i) (h:SP u (.slice pa i pc) (o.map (·.2)))=>C6t (A7h indent ys++T) u pa i pc k _ h (by simp[I.out];exact hk) (by simp[I.out];omega));have D:=hid (λ(u:World) (k:Nat) (hk:k<=i) (h:SP u (.slice ka i kc) (o.map (·.1)))=>C6t ys u ka i kc k _ h (by simp[I.out];exact hk) (by simp[I.out];omega));simp only[List.length_map,I.out]at B D;have b8:=hid (λk=>D5y o k (ys,A7h indent ys++T) (·.2));have b5:=hid (λk=>D5y o k (ys,A7h indent ys++T) (·.1));have m:=hid (show∀k,k=(if so=true then A5z (o.map (·.1)) ys i else i)->B2z so o (ys,A7h indent ys++T)=o.take k++[(ys,A7h indent ys++T)]++o.drop k from by rintro k rfl;unfold B2z;rw[I.out])
   have e7:=hid (show∀(u:World) (gi k:Nat),ka=some ⟨gi,0,none⟩->k<i->SP u (.slice ka i kc) (o.map (·.1))->u.cell? ⟨gi,k,none⟩=some (.string (ofL ((o.map (·.1))[k]?.getD [])))from by
    rintro u gi k rfl hk m5;have h1:=m5.1;unfold SR at h1;rw[List.length_map,I.out]at h1;refine A2c h1 k _ ?_;have l3:k<(o.map (·.1)).length:=by rw[List.length_map,I.out];exact hk
    unfold B5q;rw[List.getElem?_map,List.getElem?_eq_getElem l3]
    rfl)
   obtain⟨a1,k2⟩:∃a1,a+1=a1:=⟨_,rfl⟩;rw[k2]at HW HS a5 a9 e0;have j7:(a:Int)+1=(a1:Int):=by omega
   obtain⟨a2,f0⟩:∃a2,a1+n1=a2:=⟨_,rfl⟩;rw[f0]at a5 a9;have j0:(a1:Int)+(n1:Int)=(a2:Int):=by omega
   have o5:IntKind.i64.wrap ((a1:Int)+(n1:Int))=(a2:Int):=by rw[j0];exact IntWalk.i64_in _ (by omega)
   have o9:IntKind.i64.wrap ((a:Int)+1)=(a1:Int):=by rw[j7];exact IntWalk.i64_in _ (by omega)
   have n8:(a:Int)<(L:Int):=by omega
   have m7:i+2<=a2:=by omega
   have o2:IntKind.i64.wrap ((i:Int)+1)=(i:Int)+1:=IntWalk.i64_in _ (by omega);have m9:a1<cap:=by omega
   have m2:(ofL (A3g ys)).size<=600000002:=by rw[A0c];unfold A3g;simp only[List.length_cons,List.length_append,List.length_nil];omega
   obtain⟨mq,h3⟩:∃mq,(ofL (A3g ys)).size=mq:=⟨_,rfl⟩;rw[h3]at m2;have f1:ofL (A3g ys)++(⟨#[58]⟩:ByteArray)=ofL (A3g ys++[58]):=A0j _ [58];have e8:ofL (A3g ys++[58])++(⟨#[32]⟩:ByteArray)=ofL (A3g ys++[58]++[32]):=A0j _ [32];have m8:(⟨#[58]⟩:ByteArray).size=1:=rfl;have n2:(⟨#[32]⟩:ByteArray).size=1:=rfl;have i7:(ofL (A3g ys++[58])).size=mq+1:=by rw[<-f1,ByteArray.size_append,h3];rfl
   have c5:A7h indent ys=A3g ys++[58]++(if indent= -1 then[]else[32]):=by unfold A7h;simp
   generalize k3:A7h indent ys=HL at*;generalize inn+1=inn1 at*;clear hT b9 j9 j5 f0 k5 hI e9 hy f8 g3;by_cases b3:indent= -1
   ·rw[if_pos b3,List.append_nil]at c5
    have i8:decide ((0:Int)<=indent)=false:=dcF (by omega);have f9:¬((0:Int)<=indent):=by omega
    rw[<-c5]at f1 i7;clear e8 b3 c5 k3;generalize ofL (A3g ys)=QK at*;generalize ofL (A3g ys++[58])=QK1 at*;have d0:ofL (HL++T)=ofL (HL++T):=rfl;obtain⟨TS,d6⟩:∃TS,ofL (HL++T)=TS:=⟨_,rfl⟩;rw[d6]at d3 B;generalize ofL HL=HD at*;generalize ofL T=TT at*;generalize HL.length=hll1 at*;generalize T.length=tll at*;clear d6 d0
    go_wp2_with fail
    refine Calls.mono (HQ.out _) ?_;rintro e w2 ⟨rfl,a4⟩;have a6:=hid (hF.trans a4);have e4:=hid (hP.fr a4);have d5:=hid (hK.fr a4);obtain⟨y0,y1⟩:=HX.out w2 (hF.trans a4);clear a4 x0 x1 hF hP hK HQ q0 q1 q2 q3
    go_wp2_with fail
    refine Calls.mono (HW.out _ (b1.trans a6.out)) ?_;rintro e w3 ⟨rfl,X⟩;have a8:=hid (a6.trans X);have e3:=hid (e4.fr X);have c7:=hid (d5.fr X);obtain⟨z0,z1⟩:=HX.out w3 (a6.trans X);clear X y0 y1 a6 e4 d5 HW
    go_wp2_with fail
    refine Calls.mono (HS.out _ (b1.trans a8.out)) ?_;rintro e w4 ⟨rfl,O⟩;have C:=hid (a8.trans O);have E:=hid (e3.fr O);have A:=hid (c7.fr O);obtain⟨x0,x1⟩:=HX.out w4 (a8.trans O);clear O z0 z1 a8 e3 c7 HS;cases so with
    |false=>
     go_wp2_with fail
     refine Calls.mono (B.out _ i (by omega) E.out) ?_;rintro e w5 ⟨M,Z,rfl,h5,f⟩;have v:=hid (C.trans f);have z:=hid h5;have x:=hid (A.fr f);clear f C E A B h5
     go_wp2_with fail
     refine Calls.mono (D.out _ i (by omega) x.out) ?_;rintro e w6 ⟨a0,a3,rfl,h6,g⟩;have Q:=hid (v.trans g);have P:=hid h6;have V:=hid (z.fr g);clear g v z x D h6;go_wp2;go_roundw
     case rel=>exact⟨M,Z,a0,a3,a2,i+1,_,by omega,a9,by omega,rfl,rfl,rfl,by go_num,a5,hid (by rw[m.out i rfl,<-b8.out];exact V.out),hid (by rw[m.out i rfl,<-b5.out];exact P.out),Q⟩
     case measure=>simp[intOf];omega
    |true=>
     obtain⟨ks,c9⟩:∃ks,o.map (·.1)=ks:=⟨_,rfl⟩;have d7:=hid (λk=>B8j ks ys k);have a7:=hid (λgi k hg hk=>e7.out w4 gi k hg hk A.out);rw[c9]at m a7;simp only[if_true]at m;have d8:=hid (show A5z ks ys i=A5z ks ys i from rfl);obtain⟨pz,K⟩:∃pz,A5z ks ys i=pz:=⟨_,rfl⟩;have e2:=hid K;rw[K]at m;have b2:=hid (show 0<i->∃gi,ka=some ⟨gi,0,none⟩fromλhi=>A5s A.1 (by rw[List.length_map,I.out];omega));clear e7 K d8 c9;go_wp2
     go_loopw [19] (λt wq=>∃k:Nat,k<=i/\t=.int .i64 (k:Int)/\Hid (A5z ks ys k=pz)/\wq=w4) (λt _=>(intOf t).toNat)
     case atStart=>exact⟨i,by omega,by go_num,e2,rfl⟩
     case round=>
      clear e2;obtain⟨k,g9,rfl,W,rfl⟩:=hrel;cases k with
      |zero=>
       have K:0=pz:=W.out;subst K;clear W d7 a7 b2
       go_wp2_with fail
       refine Calls.mono (B.out _ 0 (by omega) E.out) ?_;rintro e w5 ⟨M,Z,rfl,h5,f⟩;have v:=hid (C.trans f);have z:=hid h5;have x:=hid (A.fr f);clear f C E A B h5
       go_wp2_with fail
       refine Calls.mono (D.out _ 0 (by omega) x.out) ?_;rintro e w6 ⟨a0,a3,rfl,h6,g⟩;have Q:=hid (v.trans g);have P:=hid h6;have V:=hid (z.fr g);clear g v z x D h6;go_wp2;go_roundw
       case rel=>exact⟨M,Z,a0,a3,a2,i+1,_,by omega,a9,by omega,rfl,rfl,rfl,by go_num,a5,hid (by rw[m.out 0 rfl,<-b8.out];exact V.out),hid (by rw[m.out 0 rfl,<-b5.out];exact P.out),Q⟩
       case measure=>simp[intOf];omega
      |succ k=>
       obtain⟨gi,rfl⟩:=b2.out (by omega);have l6:=a7.out gi k rfl (by omega);have c:=W.out;have e1:=F5r (ks[k]?.getD []) ys;simp only[A5z]at c;generalize ks[k]?.getD []=kk at*;have g5:(0:Int)<((k+1:Nat):Int):=by omega
       have f2:IntKind.i64.wrap (((k+1:Nat):Int)-1)=(k:Int):=by rw[show((k+1:Nat):Int)-1=(k:Int) by omega];exact IntWalk.i64_in _ (by omega)
       have d9:((k+1:Nat):Int)-1=(k:Int):=by omega
       have m0:(k:Int)<(i:Int):=by omega
       obtain⟨k1,f6⟩:∃k1,k+1=k1:=⟨_,rfl⟩;rw[f6]at g5 f2 g9 c d9 ⊢;cases G:ltB ys kk with
       |true=>
        rw[G]at e1;rw[if_pos G]at c;have g7:=hid c;clear G c W;go_wp2;go_roundw
        case rel=>exact⟨k,by omega,rfl,g7,by trivial⟩
        case measure=>simp[intOf];omega
       |false=>
        rw[G]at e1;rw[if_neg (by rw[G];simp)]at c;have d4:k1=pz:=c;subst d4;clear G c W d7 a7 b2
        go_wp2_with fail
        refine Calls.mono (B.out _ k1 (by omega) E.out) ?_;rintro e w5 ⟨M,Z,rfl,h5,f⟩;have v:=hid (C.trans f);have z:=hid h5;have x:=hid (A.fr f);clear f C E A B h5
        go_wp2_with fail
        refine Calls.mono (D.out _ k1 (by omega) x.out) ?_;rintro e w6 ⟨a0,a3,rfl,h6,g⟩;have Q:=hid (v.trans g);have P:=hid h6;have V:=hid (z.fr g);clear g v z x D h6;go_wp2;go_roundw
        case rel=>exact⟨M,Z,a0,a3,a2,i+1,_,by omega,a9,by omega,rfl,rfl,rfl,by go_num,a5,hid (by rw[m.out k1 rfl,<-b8.out];exact V.out),hid (by rw[m.out k1 rfl,<-b5.out];exact P.out),Q⟩
        case measure=>simp[intOf];omega
   ·rw[if_neg b3]at c5
    have i8:decide ((0:Int)<=indent)=true:=dcT (by omega);have f9:(0:Int)<=indent:=by omega
    rw[<-c5]at e8;clear b3 c5 k3;generalize ofL (A3g ys)=QK at*;generalize ofL (A3g ys++[58])=QK1 at*;have d0:ofL (HL++T)=ofL (HL++T):=rfl;obtain⟨TS,d6⟩:∃TS,ofL (HL++T)=TS:=⟨_,rfl⟩;rw[d6]at d3 B;generalize ofL HL=HD at*;generalize ofL T=TT at*;generalize HL.length=hll1 at*;generalize T.length=tll at*;clear d6 d0
    go_wp2_with fail
    refine Calls.mono (HQ.out _) ?_;rintro e w2 ⟨rfl,a4⟩;have a6:=hid (hF.trans a4);have e4:=hid (hP.fr a4);have d5:=hid (hK.fr a4);obtain⟨y0,y1⟩:=HX.out w2 (hF.trans a4);clear a4 x0 x1 hF hP hK HQ q0 q1 q2 q3
    go_wp2_with fail
    refine Calls.mono (HW.out _ (b1.trans a6.out)) ?_;rintro e w3 ⟨rfl,X⟩;have a8:=hid (a6.trans X);have e3:=hid (e4.fr X);have c7:=hid (d5.fr X);obtain⟨z0,z1⟩:=HX.out w3 (a6.trans X);clear X y0 y1 a6 e4 d5 HW
    go_wp2_with fail
    refine Calls.mono (HS.out _ (b1.trans a8.out)) ?_;rintro e w4 ⟨rfl,O⟩;have C:=hid (a8.trans O);have E:=hid (e3.fr O);have A:=hid (c7.fr O);obtain⟨x0,x1⟩:=HX.out w4 (a8.trans O);clear O z0 z1 a8 e3 c7 HS;cases so with
    |false=>
     go_wp2_with fail
     refine Calls.mono (B.out _ i (by omega) E.out) ?_;rintro e w5 ⟨M,Z,rfl,h5,f⟩;have v:=hid (C.trans f);have z:=hid h5;have x:=hid (A.fr f);clear f C E A B h5
     go_wp2_with fail
     refine Calls.mono (D.out _ i (by omega) x.out) ?_;rintro e w6 ⟨a0,a3,rfl,h6,g⟩;have Q:=hid (v.trans g);have P:=hid h6;have V:=hid (z.fr g);clear g v z x D h6;go_wp2;go_roundw
     case rel=>exact⟨M,Z,a0,a3,a2,i+1,_,by omega,a9,by omega,rfl,rfl,rfl,by go_num,a5,hid (by rw[m.out i rfl,<-b8.out];exact V.out),hid (by rw[m.out i rfl,<-b5.out];exact P.out),Q⟩
     case measure=>simp[intOf];omega
    |true=>
     obtain⟨ks,c9⟩:∃ks,o.map (·.1)=ks:=⟨_,rfl⟩;have d7:=hid (λk=>B8j ks ys k);have a7:=hid (λgi k hg hk=>e7.out w4 gi k hg hk A.out);rw[c9]at m a7;simp only[if_true]at m;have d8:=hid (show A5z ks ys i=A5z ks ys i from rfl);obtain⟨pz,K⟩:∃pz,A5z ks ys i=pz:=⟨_,rfl⟩;have e2:=hid K;rw[K]at m;have b2:=hid (show 0<i->∃gi,ka=some ⟨gi,0,none⟩fromλhi=>A5s A.1 (by rw[List.length_map,I.out];omega));clear e7 K d8 c9;go_wp2
     go_loopw [19] (λt wq=>∃k:Nat,k<=i/\t=.int .i64 (k:Int)/\Hid (A5z ks ys k=pz)/\wq=w4) (λt _=>(intOf t).toNat)
     case atStart=>exact⟨i,by omega,by go_num,e2,rfl⟩
     case round=>
      clear e2;obtain⟨k,g9,rfl,W,rfl⟩:=hrel;cases k with
      |zero=>
       have K:0=pz:=W.out;subst K;clear W d7 a7 b2
       go_wp2_with fail
       refine Calls.mono (B.out _ 0 (by omega) E.out) ?_;rintro e w5 ⟨M,Z,rfl,h5,f⟩;have v:=hid (C.trans f);have z:=hid h5;have x:=hid (A.fr f);clear f C E A B h5
       go_wp2_with fail
       refine Calls.mono (D.out _ 0 (by omega) x.out) ?_;rintro e w6 ⟨a0,a3,rfl,h6,g⟩;have Q:=hid (v.trans g);have P:=hid h6;have V:=hid (z.fr g);clear g v z x D h6;go_wp2;go_roundw
       case rel=>exact⟨M,Z,a0,a3,a2,i+1,_,by omega,a9,by omega,rfl,rfl,rfl,by go_num,a5,hid (by rw[m.out 0 rfl,<-b8.out];exact V.out),hid (by rw[m.out 0 rfl,<-b5.out];exact P.out),Q⟩
       case measure=>simp[intOf];omega
      |succ k=>
       obtain⟨gi,rfl⟩:=b2.out (by omega);have l6:=a7.out gi k rfl (by omega);have c:=W.out;have e1:=F5r (ks[k]?.getD []) ys;simp only[A5z]at c;generalize ks[k]?.getD []=kk at*;have g5:(0:Int)<((k+1:Nat):Int):=by omega
       have f2:IntKind.i64.wrap (((k+1:Nat):Int)-1)=(k:Int):=by rw[show((k+1:Nat):Int)-1=(k:Int) by omega];exact IntWalk.i64_in _ (by omega)
       have d9:((k+1:Nat):Int)-1=(k:Int):=by omega
       have m0:(k:Int)<(i:Int):=by omega
       obtain⟨k1,f6⟩:∃k1,k+1=k1:=⟨_,rfl⟩;rw[f6]at g5 f2 g9 c d9 ⊢;cases G:ltB ys kk with
       |true=>
        rw[G]at e1;rw[if_pos G]at c;have g7:=hid c;clear G c W;go_wp2;go_roundw
        case rel=>exact⟨k,by omega,rfl,g7,by trivial⟩
        case measure=>simp[intOf];omega
       |false=>
        rw[G]at e1;rw[if_neg (by rw[G];simp)]at c;have d4:k1=pz:=c;subst d4;clear G c W d7 a7 b2
        go_wp2_with fail
        refine Calls.mono (B.out _ k1 (by omega) E.out) ?_;rintro e w5 ⟨M,Z,rfl,h5,f⟩;have v:=hid (C.trans f);have z:=hid h5;have x:=hid (A.fr f);clear f C E A B h5
        go_wp2_with fail
        refine Calls.mono (D.out _ k1 (by omega) x.out) ?_;rintro e w6 ⟨a0,a3,rfl,h6,g⟩;have Q:=hid (v.trans g);have P:=hid h6;have V:=hid (z.fr g);clear g v z x D h6;go_wp2;go_roundw
        case rel=>exact⟨M,Z,a0,a3,a2,i+1,_,by omega,a9,by omega,rfl,rfl,rfl,by go_num,a5,hid (by rw[m.out k1 rfl,<-b8.out];exact V.out),hid (by rw[m.out k1 rfl,<-b5.out];exact P.out),Q⟩
        case measure=>simp[intOf];omega
  ·have h8:i=N:=by omega
   subst h8;have o4:¬((i:Int)<(i:Int)):=by omega
   have l2:=hI.done;have I:=hid hI.n;subst l2;obtain⟨ps,e5⟩:∃ps,o.map (·.2)=ps:=⟨_,rfl⟩;have i1:=hid (B6r indent (inn+1) true o c6 (by have:=d2.out;omega));have k0:=hid (λp (hp:p∈o)=>D3f hp)
   have l5:=hid (show∀(j:Nat) p,ps[j]? =some p->p.length<=100000000000 from by
    intro j p hp;rw[<-e5]at hp;obtain⟨q,hq,rfl⟩:=List.mem_map.1 (List.mem_of_getElem? hp)
    exact Nat.le_trans (k0.out q hq) f4.out)
   have b7:=hid (show ps.length=i from by rw[<-e5,List.length_map,I.out]);rw[e5]at hP i1 HU;clear e5 k0 hI hK f8 g3;by_cases i4:i=0
   ·subst i4
    have e6:A7w indent inn true ps=[123,125]:=by unfold A7w;rw[if_pos b7.out];rfl
    rw[e6]at HU;have g0:=hid (b1.trans hF.out);have m6:(⟨#[123]⟩:ByteArray)++(⟨#[125]⟩:ByteArray)=ofL [123,125]:=rfl;have p4:(⟨#[123]⟩:ByteArray).size=1:=rfl;have o3:(⟨#[125]⟩:ByteArray).size=1:=rfl;go_wp2;go_ret;exact⟨by rw[<-HU.out];rfl,g0.out⟩
   ·have n3:((i:Int)==0)=false:=bqF (by omega)
    obtain⟨J,hJ⟩:∃J,123::A2r indent (inn+1) true ps=J:=⟨_,rfl⟩;have e6:A7w indent inn true ps=J++A6p indent inn++[125]:=by unfold A7w;rw[if_neg (by have:=b7.out;omega),<-hJ];simp[F2r,G3m]
    have m3:J.length<=100000000001:=by rw[<-hJ,List.length_cons];have:=i1.out;have:=f4.out;omega
    rw[e6]at HU;obtain⟨gi,rfl⟩:=A5s hP.1 (by have:=b7.out;omega)
    have h7:=hid (show∀(u:World) (j:Nat) p,Fr (λ_=>False) wr u->ps[j]? =some p->u.cell? ⟨gi,j,none⟩=some (.string (ofL p))from by
     intro u j p hf hp;have h1:=A7e hP.1 hf (λ_ _=>id);rw[b7.out]at h1
     exact A2c h1 j _ (by unfold B5q;rw[List.getElem?_map,hp];rfl))
    have i0:=hid (λu=>f3.out inn u (by omega));have g2:=hid (λu=>f3.out (inn+1) u (by omega));have j8:=B2t indent inn c6 (by have:=d2.out;omega);have j3:=B2t indent (inn+1) c6 (by have:=d2.out;omega);have i9:=hid (show[123]++A2r indent (inn+1) (decide (0=0)) (ps.drop 0)=J from hJ);have j2:=hid (λ(j:Nat) (p S:LU8) (hp:ps[j]? =some p)=>C0z indent (inn+1) ps j p S hp);obtain⟨l0,i3⟩:∃l0,A6p indent inn=l0:=⟨_,rfl⟩;obtain⟨H,j6⟩:∃H,A6p indent (inn+1)=H:=⟨_,rfl⟩;rw[i3]at i0 j8 HU;rw[j6]at g2 j3 j2;have i2:=hid (Fr.refl (λ_=>False) wr);clear i3 j6 e6 hJ f3;generalize inn+1=inn1 at*;go_wp2
    go_loopw [20,22] (λs2 t wj=>∃(j:Nat) (S:LU8),j<=i/\s2=.string (ofL S)/\t=.int .i64 (j:Int)/\Hid (S++A2r indent inn1 (decide (j=0)) (ps.drop j)=J)/\Hid (Fr (λ_=>False) wr wj)) (λ_ t _=>i-(intOf t).toNat)
    case atStart=>exact⟨0,[123],by omega,rfl,by go_num,i9,i2⟩
    case round=>
     clear i9 i2 x0 x1
     rename_i wr0
     obtain⟨j,S,o1,rfl,rfl,hS,b6⟩:=hrel;by_cases n6:j<i
     ·have p6:(j:Int)<(i:Int):=by omega
      obtain⟨p,hp⟩:∃p,ps[j]? =some p:=⟨ps[j]'(by have:=b7.out;omega),List.getElem?_eq_getElem _⟩;have m4:=h7.out _ j p b6.out hp;have n7:=l5.out j p hp;have b0:=j2.out j p S hp;rw[hS.out]at b0;have b4:=congrArg List.length b0;have o8:IntKind.i64.wrap ((j:Int)+1)=(j:Int)+1:=IntWalk.i64_in _ (by omega);have z1:(ofL S).size=S.length:=A0c S;have z2:(ofL H).size=H.length:=A0c H;have z3:(ofL p).size=p.length:=A0c p;have h9:=hid (λn=>b6.drewN n);by_cases f5:j=0
      ·subst f5
       rw[if_pos rfl,List.append_nil]at b0 b4;have d1:ofL S++ofL H=ofL (S++H):=A0j _ _;have R:ofL (S++H)++ofL p=ofL (S++H++p):=A0j _ _;have z4:(ofL (S++H)).size=S.length+H.length:=by rw[A0c];simp
       have m:=hid b0.symm;simp only[List.length_append]at b4;obtain⟨A2,Y⟩:∃A2,ofL (S++H++p)=A2:=⟨_,rfl⟩;rw[Y]at R;have c8:=hid Y;generalize ofL (S++H)=A1 at*;generalize ofL S=A0 at*;generalize ofL H=L1 at*;generalize ofL p=PP at*;clear b0 Y hp hS b6;go_wp2;go_quiet ((go_at_call 80;exact Calls.quiet_of_same (g2.out _)));go_wp2;go_roundw
       case rel=>exact⟨1,S++H++p,by omega,by rw[c8.out],by go_num,m,hid (h9.out _)⟩
       case measure=>simp[intOf];omega
      ·rw[if_neg f5]at b0 b4
       have n5:(0:Int)<(j:Int):=by omega
       have l7:ofL S++(⟨#[44]⟩:ByteArray)=ofL (S++[44]):=A0j _ [44];have d1:ofL (S++[44])++ofL H=ofL (S++[44]++H):=A0j _ _;have R:ofL (S++[44]++H)++ofL p=ofL (S++[44]++H++p):=A0j _ _;have z4:(ofL (S++[44]++H)).size=S.length+1+H.length:=by rw[A0c];simp only[List.length_append,List.length_singleton]
       have z5:(ofL (S++[44])).size=S.length+1:=by rw[A0c];simp
       have z6:(⟨#[44]⟩:ByteArray).size=1:=rfl;have m:=hid b0.symm;simp only[List.length_append,List.length_singleton]at b4;obtain⟨A2,Y⟩:∃A2,ofL (S++[44]++H++p)=A2:=⟨_,rfl⟩;rw[Y]at R;have c8:=hid Y;generalize ofL (S++[44]++H)=A1 at*;generalize ofL (S++[44])=A01 at*;generalize ofL S=A0 at*;generalize ofL H=L1 at*;generalize ofL p=PP at*;clear b0 Y hp hS b6 f5;go_wp2;go_quiet ((go_at_call 80;exact Calls.quiet_of_same (g2.out _)));go_wp2;go_roundw
       case rel=>exact⟨j+1,S++[44]++H++p,by omega,by rw[c8.out],by go_num,m,hid (h9.out _)⟩
       case measure=>simp[intOf];omega
     ·obtain rfl:j=i:=by omega
      have n9:¬((j:Int)<(j:Int)):=by omega
      have m1:S=J:=by
       have:=hS.out;rw[List.drop_eq_nil_of_le (by have:=b7.out;omega)]at this;simpa[A2r]using this
      subst m1;have g0:=hid (b1.trans (hF.trans b6.out));have z1:(ofL S).size=S.length:=A0c S;have z2:(ofL l0).size=l0.length:=A0c l0;have z3:(⟨#[125]⟩:ByteArray).size=1:=rfl;have d1:ofL S++ofL l0=ofL (S++l0):=A0j _ _;have R:ofL (S++l0)++(⟨#[125]⟩:ByteArray)=ofL (S++l0++[125]):=A0j _ [125];have z4:(ofL (S++l0)).size=S.length+l0.length:=by rw[A0c];simp
      obtain⟨A2,Y⟩:∃A2,ofL (S++l0++[125])=A2:=⟨_,rfl⟩;rw[Y]at R;have c8:=hid Y;generalize ofL (S++l0)=A1 at*;generalize ofL S=A0 at*;generalize ofL l0=L0 at*;clear Y hS b6 i4
      go_wp2_with fail
      refine Calls.mono (i0.out _) ?_;rintro e w7 ⟨rfl,rfl⟩;go_wp2;go_ret;exact⟨by rw[<-HU.out,c8.out];rfl,g0.out⟩
end Go.Proofs.YtmkkibaacclhnaaGreatDoor
