/-
  Part Vc.
-/
import Derived.Test.YtmkkibaacclhnaaGreatDoorVb
namespace Go.Proofs.YtmkkibaacclhnaaGreatDoor
open Go.RowKit
set_option maxRecDepth 100000
set_option maxHeartbeats 32000000
theorem G2q (d:Nat) (IH:G4p d) (w:World) (ad:Addr) (cap inn:Nat) (n:Int) (b:Nat) (s:LU8) (r:List Im) (indent:Int) (so:Bool) (j4:d+1+inn=1000) (h:LR w (some ad) (⟨6,n,b,s⟩::r)) (j0:r.length+1<=cap) (hc:cap<=9223372036854775807) (l9:r.length+1<=10000000) (hs:∀y,y∈(⟨6,n,b,s⟩:Im)::r->y.s.length<=100000000) (hb:Bok (⟨6,n,b,s⟩::r)) (l5: -1<=indent) (c5:indent<=16) (hg:A0z ⟨6,n,b,s⟩=true) (c6:A0i (d+1) (⟨6,n,b,s⟩::r)≠0) (h0:wgt (⟨6,n,b,s⟩::r)<=100000000000):
 Calls Tryz.prog 47 #[.slice (some ad) (r.length+1) cap,.int .i64 indent,.bool so,.int .i64 (inn:Int)] w λe w'=>e=.returned (.string (ofL (wrD indent so (d+1) (⟨6,n,b,s⟩::r))))/\Fr (λ_=>False) w w':=by
 have m1:0<=n:=(A5i hg (by simp)).2;obtain⟨N,rfl⟩:∃N:Nat,n=(N:Int):=⟨n.toNat,by omega⟩;obtain⟨F,hW,g2,k2⟩:=D0n w d inn ⟨6,(N:Int),b,s⟩ r N indent so true j4 c5 hb hg (by simp) rfl rfl c6;rw[hW];obtain⟨U,hU⟩:∃U,A7w indent inn true (F.map (·.2))=U:=⟨_,rfl⟩;rw[hU];have HU:=hid hU;clear hU;obtain⟨l,hl⟩:∃l,(⟨6,(N:Int),b,s⟩:Im)::r=l:=⟨_,rfl⟩;have f6:=hid (show LR w (some ad) l from by rw[<-hl];exact h);obtain⟨c0,c1,c2,c3⟩:=h.at0
 try simp only at c0 c1 c2 c3
 have g9:l.length=r.length+1:=by rw[<-hl];rfl
 obtain⟨L,hL⟩:∃L,r.length+1=L:=⟨_,rfl⟩;rw[hL]at g9 j0 l9;have b5:=hid g9;rw[hl]at g2 k2 h0;have g1:=hid (show tot F<=100000000000 from by omega);have h3:=hid g2;have n8:1<=L:=by omega
 rw[hL];have p1:IntKind.i64.wrap ((inn:Int)+1)=(inn:Int)+1:=IntWalk.i64_in _ (by omega);have n7:(0:Int)<(L:Int):=by omega
 have f9:=hid (show∀y,y∈l->y.s.length<=100000000 from by rw[<-hl];exact hs);have k4:=hid (show Bok l from by rw[<-hl];exact hb);have c8:=hid (show d+(inn+1)=1000 from by omega);have k6:=hid h0
 have f3:=hid (λ(u:World) (a:Nat) (hf:Fr (λ_=>False) w u) (ha:a<L) (hz:A0i d (l.drop a)≠0)=>(show Calls Tryz.prog 47 #[.slice (some (ad.add (a*4))) (L-a) (cap-a),.int .i64 indent,.bool so,.int .i64 ((inn+1:Nat):Int)] u λe w'=>e=.returned (.string (ofL (wrD indent so d (l.drop a))))/\Fr (λ_=>False) u w' from by
  have:=IH u (some (ad.add (a*4))) (cap-a) (inn+1) (l.drop a) indent so c8.out ((f6.fr hf).drop a) (by have:=b5.out;rw[List.length_drop];omega) (by omega) (by have:=b5.out;rw[List.length_drop];omega) (λy hy=>f9.out y (List.mem_of_mem_drop hy)) (k4.drop a) l5 c5 hz (Nat.le_trans (C0r l a) k6.out);rw[List.length_drop,b5.out]at this
  exact this))
 have g0:=hid (λ(u:World) (a:Nat) (hf:Fr (λ_=>False) w u) (ha:a<L)=>(show Calls Tryz.prog 46 #[.slice (some (ad.add (a*4))) (L-a) (cap-a),.int .i64 ((inn+1:Nat):Int)] u λe w'=>e=.returned (.int .i64 ((A0i d (l.drop a):Nat):Int))/\Fr (λ_=>False) u w' from by
  have:=C6a d u (some (ad.add (a*4))) (cap-a) (inn+1) (l.drop a) c8.out ((f6.fr hf).drop a) (by have:=b5.out;rw[List.length_drop];omega) (by omega) (λy hy=>f9.out y (List.mem_of_mem_drop hy));rw[List.length_drop,b5.out]at this
  exact this))
 have i2:=hid (Fr.refl (λ_=>False) (w.alloc (.cells #[.int .i64 6,.int .i64 (N:Int),.int .u64 (b:Int),.string (ofL s)] 29)));have b2:=hid ((Fr.refl (λ_=>False) w).alloc (.cells #[.int .i64 6,.int .i64 (N:Int),.int .u64 (b:Int),.string (ofL s)] 29));have HX:=hid (λ(u:World) hf=>D0m w (.int .i64 6) (.int .i64 (N:Int)) (.int .u64 (b:Int)) (.string (ofL s)) 29 u hf);have f8:=hid (SP.nil (w.alloc (.cells #[.int .i64 6,.int .i64 (N:Int),.int .u64 (b:Int),.string (ofL s)] 29)));have f5:=hid (λ(k:Nat) (u:World) (hk:k<=inn+1)=>D0k indent k u c5 (by omega));have n0:(inn:Int)+1=((inn+1:Nat):Int):=by omega
 clear h hs hg hl g9 hL m1 hb c6 h0 k2 g2 hW IH;go_enter Tryz.func47,Tryz.ntmps47;go_wp2
 go_loopw [12,13,14,15] (λp q s2 t wr=>∃(pa:Option Addr) (pc:Nat) (ka:Option Addr) (kc a i:Nat) (o:List KT),i+1<=a/\a<=L/\i<=N/\p=.slice pa i pc/\q=.slice ka i kc/\s2=.int .i64 (a:Int)/\t=.int .i64 (i:Int)/\Hid (InvW d indent so true N l F i a o)/\Hid (SP wr (.slice pa i pc) (o.map (·.2)))/\Hid (SP wr (.slice ka i kc) (o.map (·.1)))/\Hid (Fr (λ_=>False) (w.alloc (.cells #[.int .i64 6,.int .i64 (N:Int),.int .u64 (b:Int),.string (ofL s)] 29)) wr)) (λ_ _ _ t _=>N-(intOf t).toNat)
 case atStart=>exact⟨none,0,none,0,1,0,[],by omega,by omega,by omega,rfl,rfl,by go_num,by go_num,h3,f8,f8,i2⟩
 case round=>
  clear c0 c1 c2 c3 h3 f8 i2;obtain⟨pa,pc,ka,kc,a,i,o,o2,n9,o1,rfl,rfl,rfl,rfl,hI,hP,hK,hF⟩:=hrel;obtain⟨x0,x1⟩:=HX.out wr hF.out;by_cases m0:i<N
  ·have o3:(i:Int)<(N:Int):=by omega
   obtain⟨y,n1,m2,hy,c6,a9,hT,i5⟩:=hI.obj m0;rw[b5.out]at a9;have a5:=hid i5;have m6:a<L:=by omega
   have d7:a+1<L:=by omega
   have HW:=hid (λu hf=>f3.out u (a+1) hf d7 (by rw[c6];omega));have HS:=hid (λu hf=>g0.out u (a+1) hf d7);rw[c6]at HS;obtain⟨q0,q1,q2,q3⟩:=((f6.fr (b2.trans hF.out)).at_ hy);have k3:=f9.out y (List.mem_of_getElem? hy);have m4:=A8t y.s;have HQ:=hid (λu=>C3k y.s u k3);obtain⟨ys,f1⟩:∃ys,y.s=ys:=⟨_,rfl⟩;rw[f1]at HQ k3 m4 q3 a5 hT;obtain⟨T,i6⟩:∃T,wrD indent so d (l.drop (a+1))=T:=⟨_,rfl⟩;rw[i6]at HW a5 hT;have H:=hid hI.n;have k9:(A7h indent ys++T).length<=100000000000:=Nat.le_trans hT g1.out;have p0:(ofL T).size=T.length:=A0c T;have o9:(ofL (A7h indent ys)).size=(A7h indent ys).length:=A0c _;have d9:ofL (A7h indent ys)++ofL T=ofL (A7h indent ys++T):=A0j _ _;rw[List.length_append]at k9;have B:=hid (λ(u:World) (k:Nat) (hk:k<=i) (h:SP u (.slice pa i pc) (o.map (·.2)))=>C6t (A7h indent ys++T) u pa i pc k _ h (by simp[H.out];exact hk) (by simp[H.out];omega));have D:=hid (λ(u:World) (k:Nat) (hk:k<=i) (h:SP u (.slice ka i kc) (o.map (·.1)))=>C6t ys u ka i kc k _ h (by simp[H.out];exact hk) (by simp[H.out];omega));simp only[List.length_map,H.out]at B D;have b6:=hid (λk=>D5y o k (ys,A7h indent ys++T) (·.2));have b7:=hid (λk=>D5y o k (ys,A7h indent ys++T) (·.1));have m:=hid (show∀k,k=(if so=true then A5z (o.map (·.1)) ys i else i)->B2z so o (ys,A7h indent ys++T)=o.take k++[(ys,A7h indent ys++T)]++o.drop k from by rintro k rfl;unfold B2z;rw[H.out])
   have e5:=hid (show∀(u:World) (gi k:Nat),ka=some ⟨gi,0,none⟩->k<i->SP u (.slice ka i kc) (o.map (·.1))->u.cell? ⟨gi,k,none⟩=some (.string (ofL ((o.map (·.1))[k]?.getD [])))from by
    rintro u gi k rfl hk m5;have h1:=m5.1;unfold SR at h1;rw[List.length_map,H.out]at h1;refine A2c h1 k _ ?_;have l8:k<(o.map (·.1)).length:=by rw[List.length_map,H.out];exact hk
    unfold B5q;rw[List.getElem?_map,List.getElem?_eq_getElem l8]
    rfl)
   obtain⟨a1,i7⟩:∃a1,a+1=a1:=⟨_,rfl⟩;rw[i7]at HW HS a5 a9 d7;have i8:(a:Int)+1=(a1:Int):=by omega
   obtain⟨a2,e8⟩:∃a2,a1+n1=a2:=⟨_,rfl⟩;rw[e8]at a5 a9;have i9:(a1:Int)+(n1:Int)=(a2:Int):=by omega
   have p3:IntKind.i64.wrap ((a1:Int)+(n1:Int))=(a2:Int):=by rw[i9];exact IntWalk.i64_in _ (by omega)
   have p5:IntKind.i64.wrap ((a:Int)+1)=(a1:Int):=by rw[i8];exact IntWalk.i64_in _ (by omega)
   have o0:(a:Int)<(L:Int):=by omega
   have n2:i+2<=a2:=by omega
   have p2:IntKind.i64.wrap ((i:Int)+1)=(i:Int)+1:=IntWalk.i64_in _ (by omega);have m7:a1<cap:=by omega
   have m3:(ofL (A3g ys)).size<=600000002:=by rw[A0c];unfold A3g;simp only[List.length_cons,List.length_append,List.length_nil];omega
   obtain⟨mq,j9⟩:∃mq,(ofL (A3g ys)).size=mq:=⟨_,rfl⟩;rw[j9]at m3;have e9:ofL (A3g ys)++(⟨#[58]⟩:ByteArray)=ofL (A3g ys++[58]):=A0j _ [58];have f0:ofL (A3g ys++[58])++(⟨#[32]⟩:ByteArray)=ofL (A3g ys++[58]++[32]):=A0j _ [32];have n6:(⟨#[58]⟩:ByteArray).size=1:=rfl;have n5:(⟨#[32]⟩:ByteArray).size=1:=rfl;have k0:(ofL (A3g ys++[58])).size=mq+1:=by rw[<-e9,ByteArray.size_append,j9];rfl
   have c4:A7h indent ys=A3g ys++[58]++(if indent= -1 then[]else[32]):=by unfold A7h;simp
   generalize i4:A7h indent ys=HL at*;generalize inn+1=inn1 at*;clear hT c6 i6 i5 e8 m2 hI f1 hy f3 g0;by_cases b4:indent= -1
   ·rw[if_pos b4,List.append_nil]at c4
    have j1:decide ((0:Int)<=indent)=false:=dcF (by omega);have g3:¬((0:Int)<=indent):=by omega
    rw[<-c4]at e9 k0;clear f0 b4 c4 i4;generalize ofL (A3g ys)=QK at*;generalize ofL (A3g ys++[58])=QK1 at*;have e4:ofL (HL++T)=ofL (HL++T):=rfl;obtain⟨TS,d6⟩:∃TS,ofL (HL++T)=TS:=⟨_,rfl⟩;rw[d6]at d9 B;generalize ofL HL=HD at*;generalize ofL T=TT at*;generalize HL.length=hll1 at*;generalize T.length=tll at*;clear d6 e4
    go_wp2_with fail
    refine Calls.mono (HQ.out _) ?_;rintro e w2 ⟨rfl,R⟩;have a6:=hid (hF.trans R);have d4:=hid (hP.fr R);have d2:=hid (hK.fr R);obtain⟨y0,y1⟩:=HX.out w2 (hF.trans R);clear R x0 x1 hF hP hK HQ q0 q1 q2 q3
    go_wp2_with fail
    refine Calls.mono (HW.out _ (b2.trans a6.out)) ?_;rintro e w3 ⟨rfl,V⟩;have a7:=hid (a6.trans V);have d5:=hid (d4.fr V);have d3:=hid (d2.fr V);obtain⟨z0,z1⟩:=HX.out w3 (a6.trans V);clear V y0 y1 a6 d4 d2 HW
    go_wp2_with fail
    refine Calls.mono (HS.out _ (b2.trans a7.out)) ?_;rintro e w4 ⟨rfl,W⟩;have C:=hid (a7.trans W);have E:=hid (d5.fr W);have x:=hid (d3.fr W);obtain⟨x0,x1⟩:=HX.out w4 (a7.trans W);clear W z0 z1 a7 d5 d3 HS;cases so with
    |false=>
     go_wp2_with fail
     refine Calls.mono (B.out _ i (by omega) E.out) ?_;rintro e w5 ⟨a3,a4,rfl,h5,f⟩;have v:=hid (C.trans f);have A:=hid h5;have z:=hid (x.fr f);clear f C E x B h5
     go_wp2_with fail
     refine Calls.mono (D.out _ i (by omega) z.out) ?_;rintro e w6 ⟨Z,a0,rfl,h6,g⟩;have K:=hid (v.trans g);have O:=hid h6;have P:=hid (A.fr g);clear g v A z D h6;go_wp2;go_roundw
     case rel=>exact⟨a3,a4,Z,a0,a2,i+1,_,by omega,a9,by omega,rfl,rfl,rfl,by go_num,a5,hid (by rw[m.out i rfl,<-b6.out];exact P.out),hid (by rw[m.out i rfl,<-b7.out];exact O.out),K⟩
     case measure=>simp[intOf];omega
    |true=>
     obtain⟨ks,e1⟩:∃ks,o.map (·.1)=ks:=⟨_,rfl⟩;have c9:=hid (λk=>B8j ks ys k);have a8:=hid (λgi k hg hk=>e5.out w4 gi k hg hk x.out);rw[e1]at m a8;simp only[if_true]at m;have d0:=hid (show A5z ks ys i=A5z ks ys i from rfl);obtain⟨pz,Y⟩:∃pz,A5z ks ys i=pz:=⟨_,rfl⟩;have d1:=hid Y;rw[Y]at m;have b1:=hid (show 0<i->∃gi,ka=some ⟨gi,0,none⟩fromλhi=>A5s x.1 (by rw[List.length_map,H.out];omega));clear e5 Y d0 e1;go_wp2
     go_loopw [19] (λt wq=>∃k:Nat,k<=i/\t=.int .i64 (k:Int)/\Hid (A5z ks ys k=pz)/\wq=w4) (λt _=>(intOf t).toNat)
     case atStart=>exact⟨i,by omega,by go_num,d1,rfl⟩
     case round=>
      clear d1;obtain⟨k,g7,rfl,X,rfl⟩:=hrel;cases k with
      |zero=>
       have Y:0=pz:=X.out;subst Y;clear X c9 a8 b1
       go_wp2_with fail
       refine Calls.mono (B.out _ 0 (by omega) E.out) ?_;rintro e w5 ⟨a3,a4,rfl,h5,f⟩;have v:=hid (C.trans f);have A:=hid h5;have z:=hid (x.fr f);clear f C E x B h5
       go_wp2_with fail
       refine Calls.mono (D.out _ 0 (by omega) z.out) ?_;rintro e w6 ⟨Z,a0,rfl,h6,g⟩;have K:=hid (v.trans g);have O:=hid h6;have P:=hid (A.fr g);clear g v A z D h6;go_wp2;go_roundw
       case rel=>exact⟨a3,a4,Z,a0,a2,i+1,_,by omega,a9,by omega,rfl,rfl,rfl,by go_num,a5,hid (by rw[m.out 0 rfl,<-b6.out];exact P.out),hid (by rw[m.out 0 rfl,<-b7.out];exact O.out),K⟩
       case measure=>simp[intOf];omega
      |succ k=>
       obtain⟨gi,rfl⟩:=b1.out (by omega);have l6:=a8.out gi k rfl (by omega);have c:=X.out;have e0:=F5r (ks[k]?.getD []) ys;simp only[A5z]at c;generalize ks[k]?.getD []=kk at*;have g5:(0:Int)<((k+1:Nat):Int):=by omega
       have g8:IntKind.i64.wrap (((k+1:Nat):Int)-1)=(k:Int):=by rw[show((k+1:Nat):Int)-1=(k:Int) by omega];exact IntWalk.i64_in _ (by omega)
       have e2:((k+1:Nat):Int)-1=(k:Int):=by omega
       have l7:(k:Int)<(i:Int):=by omega
       obtain⟨k1,g6⟩:∃k1,k+1=k1:=⟨_,rfl⟩;rw[g6]at g5 g8 g7 c e2 ⊢;cases G:ltB ys kk with
       |true=>
        rw[G]at e0;rw[if_pos G]at c;have f7:=hid c;clear G c X;go_wp2;go_roundw
        case rel=>exact⟨k,by omega,rfl,f7,by trivial⟩
        case measure=>simp[intOf];omega
       |false=>
        rw[G]at e0;rw[if_neg (by rw[G];simp)]at c;have e3:k1=pz:=c;subst e3;clear G c X c9 a8 b1
        go_wp2_with fail
        refine Calls.mono (B.out _ k1 (by omega) E.out) ?_;rintro e w5 ⟨a3,a4,rfl,h5,f⟩;have v:=hid (C.trans f);have A:=hid h5;have z:=hid (x.fr f);clear f C E x B h5
        go_wp2_with fail
        refine Calls.mono (D.out _ k1 (by omega) z.out) ?_;rintro e w6 ⟨Z,a0,rfl,h6,g⟩;have K:=hid (v.trans g);have O:=hid h6;have P:=hid (A.fr g);clear g v A z D h6;go_wp2;go_roundw
        case rel=>exact⟨a3,a4,Z,a0,a2,i+1,_,by omega,a9,by omega,rfl,rfl,rfl,by go_num,a5,hid (by rw[m.out k1 rfl,<-b6.out];exact P.out),hid (by rw[m.out k1 rfl,<-b7.out];exact O.out),K⟩
        case measure=>simp[intOf];omega
   ·rw[if_neg b4]at c4
    have j1:decide ((0:Int)<=indent)=true:=dcT (by omega);have g3:(0:Int)<=indent:=by omega
    rw[<-c4]at f0;clear b4 c4 i4;generalize ofL (A3g ys)=QK at*;generalize ofL (A3g ys++[58])=QK1 at*;have e4:ofL (HL++T)=ofL (HL++T):=rfl;obtain⟨TS,d6⟩:∃TS,ofL (HL++T)=TS:=⟨_,rfl⟩;rw[d6]at d9 B;generalize ofL HL=HD at*;generalize ofL T=TT at*;generalize HL.length=hll1 at*;generalize T.length=tll at*;clear d6 e4
    go_wp2_with fail
    refine Calls.mono (HQ.out _) ?_;rintro e w2 ⟨rfl,R⟩;have a6:=hid (hF.trans R);have d4:=hid (hP.fr R);have d2:=hid (hK.fr R);obtain⟨y0,y1⟩:=HX.out w2 (hF.trans R);clear R x0 x1 hF hP hK HQ q0 q1 q2 q3
    go_wp2_with fail
    refine Calls.mono (HW.out _ (b2.trans a6.out)) ?_;rintro e w3 ⟨rfl,V⟩;have a7:=hid (a6.trans V);have d5:=hid (d4.fr V);have d3:=hid (d2.fr V);obtain⟨z0,z1⟩:=HX.out w3 (a6.trans V);clear V y0 y1 a6 d4 d2 HW
    go_wp2_with fail
    refine Calls.mono (HS.out _ (b2.trans a7.out)) ?_;rintro e w4 ⟨rfl,W⟩;have C:=hid (a7.trans W);have E:=hid (d5.fr W);have x:=hid (d3.fr W);obtain⟨x0,x1⟩:=HX.out w4 (a7.trans W);clear W z0 z1 a7 d5 d3 HS;cases so with
    |false=>
     go_wp2_with fail
     refine Calls.mono (B.out _ i (by omega) E.out) ?_;rintro e w5 ⟨a3,a4,rfl,h5,f⟩;have v:=hid (C.trans f);have A:=hid h5;have z:=hid (x.fr f);clear f C E x B h5
     go_wp2_with fail
     refine Calls.mono (D.out _ i (by omega) z.out) ?_;rintro e w6 ⟨Z,a0,rfl,h6,g⟩;have K:=hid (v.trans g);have O:=hid h6;have P:=hid (A.fr g);clear g v A z D h6;go_wp2;go_roundw
     case rel=>exact⟨a3,a4,Z,a0,a2,i+1,_,by omega,a9,by omega,rfl,rfl,rfl,by go_num,a5,hid (by rw[m.out i rfl,<-b6.out];exact P.out),hid (by rw[m.out i rfl,<-b7.out];exact O.out),K⟩
     case measure=>simp[intOf];omega
    |true=>
     obtain⟨ks,e1⟩:∃ks,o.map (·.1)=ks:=⟨_,rfl⟩;have c9:=hid (λk=>B8j ks ys k);have a8:=hid (λgi k hg hk=>e5.out w4 gi k hg hk x.out);rw[e1]at m a8;simp only[if_true]at m;have d0:=hid (show A5z ks ys i=A5z ks ys i from rfl);obtain⟨pz,Y⟩:∃pz,A5z ks ys i=pz:=⟨_,rfl⟩;have d1:=hid Y;rw[Y]at m;have b1:=hid (show 0<i->∃gi,ka=some ⟨gi,0,none⟩fromλhi=>A5s x.1 (by rw[List.length_map,H.out];omega));clear e5 Y d0 e1;go_wp2
     go_loopw [19] (λt wq=>∃k:Nat,k<=i/\t=.int .i64 (k:Int)/\Hid (A5z ks ys k=pz)/\wq=w4) (λt _=>(intOf t).toNat)
     case atStart=>exact⟨i,by omega,by go_num,d1,rfl⟩
     case round=>
      clear d1;obtain⟨k,g7,rfl,X,rfl⟩:=hrel;cases k with
      |zero=>
       have Y:0=pz:=X.out;subst Y;clear X c9 a8 b1
       go_wp2_with fail
       refine Calls.mono (B.out _ 0 (by omega) E.out) ?_;rintro e w5 ⟨a3,a4,rfl,h5,f⟩;have v:=hid (C.trans f);have A:=hid h5;have z:=hid (x.fr f);clear f C E x B h5
       go_wp2_with fail
       refine Calls.mono (D.out _ 0 (by omega) z.out) ?_;rintro e w6 ⟨Z,a0,rfl,h6,g⟩;have K:=hid (v.trans g);have O:=hid h6;have P:=hid (A.fr g);clear g v A z D h6;go_wp2;go_roundw
       case rel=>exact⟨a3,a4,Z,a0,a2,i+1,_,by omega,a9,by omega,rfl,rfl,rfl,by go_num,a5,hid (by rw[m.out 0 rfl,<-b6.out];exact P.out),hid (by rw[m.out 0 rfl,<-b7.out];exact O.out),K⟩
       case measure=>simp[intOf];omega
      |succ k=>
       obtain⟨gi,rfl⟩:=b1.out (by omega);have l6:=a8.out gi k rfl (by omega);have c:=X.out;have e0:=F5r (ks[k]?.getD []) ys;simp only[A5z]at c;generalize ks[k]?.getD []=kk at*;have g5:(0:Int)<((k+1:Nat):Int):=by omega
       have g8:IntKind.i64.wrap (((k+1:Nat):Int)-1)=(k:Int):=by rw[show((k+1:Nat):Int)-1=(k:Int) by omega];exact IntWalk.i64_in _ (by omega)
       have e2:((k+1:Nat):Int)-1=(k:Int):=by omega
       have l7:(k:Int)<(i:Int):=by omega
       obtain⟨k1,g6⟩:∃k1,k+1=k1:=⟨_,rfl⟩;rw[g6]at g5 g8 g7 c e2 ⊢;cases G:ltB ys kk with
       |true=>
        rw[G]at e0;rw[if_pos G]at c;have f7:=hid c;clear G c X;go_wp2;go_roundw
        case rel=>exact⟨k,by omega,rfl,f7,by trivial⟩
        case measure=>simp[intOf];omega
       |false=>
        rw[G]at e0;rw[if_neg (by rw[G];simp)]at c;have e3:k1=pz:=c;subst e3;clear G c X c9 a8 b1
        go_wp2_with fail
        refine Calls.mono (B.out _ k1 (by omega) E.out) ?_;rintro e w5 ⟨a3,a4,rfl,h5,f⟩;have v:=hid (C.trans f);have A:=hid h5;have z:=hid (x.fr f);clear f C E x B h5
        go_wp2_with fail
        refine Calls.mono (D.out _ k1 (by omega) z.out) ?_;rintro e w6 ⟨Z,a0,rfl,h6,g⟩;have K:=hid (v.trans g);have O:=hid h6;have P:=hid (A.fr g);clear g v A z D h6;go_wp2;go_roundw
        case rel=>exact⟨a3,a4,Z,a0,a2,i+1,_,by omega,a9,by omega,rfl,rfl,rfl,by go_num,a5,hid (by rw[m.out k1 rfl,<-b6.out];exact P.out),hid (by rw[m.out k1 rfl,<-b7.out];exact O.out),K⟩
        case measure=>simp[intOf];omega
  ·have j3:i=N:=by omega
   subst j3;have o6:¬((i:Int)<(i:Int)):=by omega
   have l2:=hI.done;have H:=hid hI.n;subst l2;obtain⟨ps,e7⟩:∃ps,o.map (·.2)=ps:=⟨_,rfl⟩;have h8:=hid (B6r indent (inn+1) true o c5 (by have:=c8.out;omega));have i0:=hid (λp (hp:p∈o)=>D3f hp)
   have k5:=hid (show∀(j:Nat) p,ps[j]? =some p->p.length<=100000000000 from by
    intro j p hp;rw[<-e7]at hp;obtain⟨q,hq,rfl⟩:=List.mem_map.1 (List.mem_of_getElem? hp)
    exact Nat.le_trans (i0.out q hq) g1.out)
   have b8:=hid (show ps.length=i from by rw[<-e7,List.length_map,H.out]);rw[e7]at hP h8 HU;clear e7 i0 hI hK f3 g0;by_cases j2:i=0
   ·subst j2
    have e6:A7w indent inn true ps=[123,125]:=by unfold A7w;rw[if_pos b8.out];rfl
    rw[e6]at HU;have f2:=hid (b2.trans hF.out);have m8:(⟨#[123]⟩:ByteArray)++(⟨#[125]⟩:ByteArray)=ofL [123,125]:=rfl;have p6:(⟨#[123]⟩:ByteArray).size=1:=rfl;have p7:(⟨#[125]⟩:ByteArray).size=1:=rfl;go_wp2;go_ret;exact⟨by rw[<-HU.out];rfl,f2.out⟩
   ·have m9:((i:Int)==0)=false:=bqF (by omega)
    obtain⟨J,hJ⟩:∃J,123::A2r indent (inn+1) true ps=J:=⟨_,rfl⟩;have e6:A7w indent inn true ps=J++A6p indent inn++[125]:=by unfold A7w;rw[if_neg (by have:=b8.out;omega),<-hJ];simp[F2r,G3m]
    have k7:J.length<=100000000001:=by rw[<-hJ,List.length_cons];have:=h8.out;have:=g1.out;omega
    rw[e6]at HU;obtain⟨gi,rfl⟩:=A5s hP.1 (by have:=b8.out;omega)
    have i1:=hid (show∀(u:World) (j:Nat) p,Fr (λ_=>False) wr u->ps[j]? =some p->u.cell? ⟨gi,j,none⟩=some (.string (ofL p))from by
     intro u j p hf hp;have h1:=A7e hP.1 hf (λ_ _=>id);rw[b8.out]at h1
     exact A2c h1 j _ (by unfold B5q;rw[List.getElem?_map,hp];rfl))
    have h9:=hid (λu=>f5.out inn u (by omega));have f4:=hid (λu=>f5.out (inn+1) u (by omega));have j7:=B2t indent inn c5 (by have:=c8.out;omega);have j8:=B2t indent (inn+1) c5 (by have:=c8.out;omega);have h4:=hid (show[123]++A2r indent (inn+1) (decide (0=0)) (ps.drop 0)=J from hJ);have h7:=hid (λ(j:Nat) (p S:LU8) (hp:ps[j]? =some p)=>C0z indent (inn+1) ps j p S hp);obtain⟨l0,j5⟩:∃l0,A6p indent inn=l0:=⟨_,rfl⟩;obtain⟨I,j6⟩:∃I,A6p indent (inn+1)=I:=⟨_,rfl⟩;rw[j5]at h9 j7 HU;rw[j6]at f4 j8 h7;have i3:=hid (Fr.refl (λ_=>False) wr);clear j5 j6 e6 hJ f5;generalize inn+1=inn1 at*;go_wp2
    go_loopw [20,22] (λs2 t wj=>∃(j:Nat) (S:LU8),j<=i/\s2=.string (ofL S)/\t=.int .i64 (j:Int)/\Hid (S++A2r indent inn1 (decide (j=0)) (ps.drop j)=J)/\Hid (Fr (λ_=>False) wr wj)) (λ_ t _=>i-(intOf t).toNat)
    case atStart=>exact⟨0,[123],by omega,rfl,by go_num,h4,i3⟩
    case round=>
     clear h4 i3 x0 x1
     rename_i wr0
     obtain⟨j,S,o4,rfl,rfl,hS,b9⟩:=hrel;by_cases n4:j<i
     ·have o5:(j:Int)<(i:Int):=by omega
      obtain⟨p,hp⟩:∃p,ps[j]? =some p:=⟨ps[j]'(by have:=b8.out;omega),List.getElem?_eq_getElem _⟩;have l4:=i1.out _ j p b9.out hp;have o8:=k5.out j p hp;have b0:=h7.out j p S hp;rw[hS.out]at b0;have b3:=congrArg List.length b0;have p4:IntKind.i64.wrap ((j:Int)+1)=(j:Int)+1:=IntWalk.i64_in _ (by omega);have z1:(ofL S).size=S.length:=A0c S;have z2:(ofL I).size=I.length:=A0c I;have z3:(ofL p).size=p.length:=A0c p;have h2:=hid (λn=>b9.drewN n);by_cases g4:j=0
      ·subst g4
       rw[if_pos rfl,List.append_nil]at b0 b3;have d8:ofL S++ofL I=ofL (S++I):=A0j _ _;have Q:ofL (S++I)++ofL p=ofL (S++I++p):=A0j _ _;have z4:(ofL (S++I)).size=S.length+I.length:=by rw[A0c];simp
       have m:=hid b0.symm;simp only[List.length_append]at b3;obtain⟨A2,M⟩:∃A2,ofL (S++I++p)=A2:=⟨_,rfl⟩;rw[M]at Q;have c7:=hid M;generalize ofL (S++I)=A1 at*;generalize ofL S=A0 at*;generalize ofL I=L1 at*;generalize ofL p=PP at*;clear b0 M hp hS b9;go_wp2;go_quiet ((go_at_call 80;exact Calls.quiet_of_same (f4.out _)));go_wp2;go_roundw
       case rel=>exact⟨1,S++I++p,by omega,by rw[c7.out],by go_num,m,hid (h2.out _)⟩
       case measure=>simp[intOf];omega
      ·rw[if_neg g4]at b0 b3
       have n3:(0:Int)<(j:Int):=by omega
       have l3:ofL S++(⟨#[44]⟩:ByteArray)=ofL (S++[44]):=A0j _ [44];have d8:ofL (S++[44])++ofL I=ofL (S++[44]++I):=A0j _ _;have Q:ofL (S++[44]++I)++ofL p=ofL (S++[44]++I++p):=A0j _ _;have z4:(ofL (S++[44]++I)).size=S.length+1+I.length:=by rw[A0c];simp only[List.length_append,List.length_singleton]
       have z5:(ofL (S++[44])).size=S.length+1:=by rw[A0c];simp
       have z6:(⟨#[44]⟩:ByteArray).size=1:=rfl;have m:=hid b0.symm;simp only[List.length_append,List.length_singleton]at b3;obtain⟨A2,M⟩:∃A2,ofL (S++[44]++I++p)=A2:=⟨_,rfl⟩;rw[M]at Q;have c7:=hid M;generalize ofL (S++[44]++I)=A1 at*;generalize ofL (S++[44])=A01 at*;generalize ofL S=A0 at*;generalize ofL I=L1 at*;generalize ofL p=PP at*;clear b0 M hp hS b9 g4;go_wp2;go_quiet ((go_at_call 80;exact Calls.quiet_of_same (f4.out _)));go_wp2;go_roundw
       case rel=>exact⟨j+1,S++[44]++I++p,by omega,by rw[c7.out],by go_num,m,hid (h2.out _)⟩
       case measure=>simp[intOf];omega
     ·obtain rfl:j=i:=by omega
      have o7:¬((j:Int)<(j:Int)):=by omega
      have k8:S=J:=by
       have:=hS.out;rw[List.drop_eq_nil_of_le (by have:=b8.out;omega)]at this;simpa[A2r]using this
      subst k8;have f2:=hid (b2.trans (hF.trans b9.out));have z1:(ofL S).size=S.length:=A0c S;have z2:(ofL l0).size=l0.length:=A0c l0;have z3:(⟨#[125]⟩:ByteArray).size=1:=rfl;have d8:ofL S++ofL l0=ofL (S++l0):=A0j _ _;have Q:ofL (S++l0)++(⟨#[125]⟩:ByteArray)=ofL (S++l0++[125]):=A0j _ [125];have z4:(ofL (S++l0)).size=S.length+l0.length:=by rw[A0c];simp
      obtain⟨A2,M⟩:∃A2,ofL (S++l0++[125])=A2:=⟨_,rfl⟩;rw[M]at Q;have c7:=hid M;generalize ofL (S++l0)=A1 at*;generalize ofL S=A0 at*;generalize ofL l0=L0 at*;clear M hS b9 j2
      go_wp2_with fail
      refine Calls.mono (h9.out _) ?_;rintro e w7 ⟨rfl,rfl⟩;go_wp2;go_ret;exact⟨by rw[<-HU.out,c7.out];rfl,f2.out⟩
end Go.Proofs.YtmkkibaacclhnaaGreatDoor
