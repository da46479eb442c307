/-
  Part Yg.
-/
import Derived.Test.YtmkkibaacclhnaaGreatDoorSn
import Derived.Test.YtmkkibaacclhnaaGreatDoorSp
import Derived.Test.YtmkkibaacclhnaaGreatDoorSd
import Derived.Deep.OwnRows
import Derived.Laws.CopyOwn
namespace Go.Proofs.YtmkkibaacclhnaaGreatDoor
open Go.RowKit
set_option maxRecDepth 100000
set_option maxHeartbeats 40000000
theorem F4f {d f inn:Nat} {p:LU8}:rGo d (f+1) inn .pair p=match A0s p with
 |[]=>.ended false
 |c::q=>if c≠34 then .wrong 3 (c::q)else match A1i tr0 q with
  |.wrong e p=>.wrong e p
  |.ended=>.ended false
  |.ok s p=>match A0s p with
   |[]=>.ended false
   |a::q2=>if a≠58 then .wrong 3 (a::q2)else match rGo d f inn .val q2 with
    |.wrong e p2=>.wrong e p2
    |.ended l=>.ended l
    |.ok _ its p2=>.ok 0 (⟨4,0,0,s⟩::its) p2:=by
 rw[rGo.eq_def];rfl
theorem F4g (B:Nat) (w0 w:World) (l p:LU8) (f inn d:Nat) (vi:Value) (its:List It) (hl:l.length<=1800000) (b0:its.length+p.length<=8000000) (hf:A5g .pair p<=f+1) (h:SC B w0 w l p inn d vi its 0 false false)
 (h1:∀(w':World) (a4:Value) (its':List It) (p':LU8),A5g .val p'<=f->its'.length+p'.length<=8000000->SC B w0 w' l p' inn d a4 its' 0 false false->Calls Tryz.prog 52 #[.pointer (some ⟨B,0,none⟩)] w' (B1i B w0 l inn d its' (rGo d f inn .val p'))):
 Calls Tryz.prog 143 #[.pointer (some ⟨B,0,none⟩)] w (B1i B w0 l inn d its (rGo d (f+1) inn .pair p)):=by
 obtain⟨a,n,cap,rfl⟩:=A0h h.oi;obtain rfl:=A1a h.oi;have Y:=hid (A2n B w0 w l p inn d _ its 0 false false (by omega) h);have a1:=A0c l;have b1:=h.at_;have H1:=hid h1;have P:=(A0x p).length_le;obtain⟨i0,hi,Q,R,S⟩:=info_parts Tryz.info29;obtain⟨U,K⟩:∃U,rGo d (f+1) inn .pair p=U:=⟨_,rfl⟩;rw[K];rw[F4f]at K;clear h h1;cases hx:A0s p with
 |nil=>
  rw[hx]at Y K;have T:=hid K;clear hx K;go_enter Tryz.func143,Tryz.ntmps143
  go_wp2_with fail
  refine Calls.mono Y.out ?_;rintro x w2 ⟨rfl,i⟩;have z:=hid i;clear i;go_wp2;go_ret;rw[<-T.out];exact⟨rfl,_,[],by rw[List.append_nil];exact z.out⟩
 |cons c q=>
  rw[hx]at Y P K;have hq:q.length+1<=p.length:=P;have a7:c.toNat<256:=c.toNat_lt;have T:=hid K;have a8:4*q.length+4+2<=f+1:=by unfold A5g at hf;simp only at hf;omega
  clear hx K P hf;go_enter Tryz.func143,Tryz.ntmps143
  go_wp2_with fail
  refine Calls.mono Y.out ?_;rintro x w2 ⟨rfl,i⟩;have A:SC B w0 w2 l (c::q) inn d (.slice a its.length cap) its 0 false false:=i;clear i;obtain⟨a3,hg⟩:=A3i A.suf;have k0:=A0a A.blk (show(A0e l (l.length-(c::q).length) inn d (.slice a its.length cap) 0 false false)[0]? =some (.string (ofL l))from rfl);have k1:=A0a A.blk (show(A0e l (l.length-(c::q).length) inn d (.slice a its.length cap) 0 false false)[1]? =some (.int .i64 ((l.length-(c::q).length:Nat):Int))from rfl);have a9:(ofL l)[l.length-(c::q).length]'(by rw[a1];exact a3)=c:=(A1d l _ _).trans hg;have G:=hid (λn=>A2m B w0 (w2.drewN n) l (c::q) inn d (.slice a its.length cap) its 0 3 false false (A.drewN n));have O:=hid (λn=>D6f B w0 (w2.drewN n) l c q inn d (.slice a its.length cap) its (by omega) (A.drewN n));generalize l.length-(c::q).length=ps at*;clear hg A Y;by_cases C:c≠34
  ·have hb:((c.toNat:Int)!=34)=true:=bne_iff_ne.2 (by have:=A0k C;simp at this;omega)
   have r:=T.out;simp only[if_pos C]at r;have r:=hid r;clear T C;go_wp2;go_quiet (fail)
   go_wp2_with fail
   refine Calls.mono (G.out _) ?_;rintro x X ⟨rfl,i⟩;have z:=hid i;clear i;go_wp2;go_ret;rw[<-r.out];exact⟨rfl,_,[],by rw[List.append_nil];exact z.out⟩
  obtain rfl:c=34:=Classical.not_not.1 C;have r:=T.out;simp only[if_neg C]at r;have r:=hid r;clear T C;have D:=hid (B0a tr0 q);cases hr:A1i tr0 q with
  |wrong e q3=>
   rw[hr]at O r;clear hr D;go_wp2;go_quiet (fail)
   go_wp2_with fail
   refine Calls.mono (O.out _) ?_;rintro x X ⟨rfl,i⟩;unfold E7d;have z:=hid i;have N:=i.oi;have k4:=A0a i.blk (show(A0e l (l.length-(q3:LU8).length) inn d (.slice a its.length cap) e false false)[4]? =some (.slice a its.length cap)from rfl);have f4:=A0b (j:=4) i.blk;clear i k0 k1
   go_wp2_with (first
    |(at_builtin;refine A0g _ rfl _ _ 22 rfl 29 i0 (.agg #[.int .i64 0,.int .i64 0,.int .u64 0,.string ⟨#[]⟩]) 4 40 Tryz.underlying22 hi Q R S rfl (by decide) _ _ _ rfl (N.alloc _) ⟨X.heap.size,0,none⟩ 1 1 (A1f ⟨4,0,0,[]⟩) rfl rfl ?c1 ?c2 ?c3 ?c4 ?_)
    |fail)
   case c1=>exact A3p _ _ _ _ _ _
   case c2=>intro u M;simp[A1f]at M;rcases M with rfl|rfl|rfl|rfl<;>rfl
   case c3=>unfold maxLen;omega
   case c4=>omega
   intro v' w1 g k m;obtain⟨V,W,t,rfl⟩:=A0h g;obtain⟨o,I⟩:=z.growI ⟨4,0,0,[]⟩ g k m;have q4:=A0a o (show(A0e l (l.length-(q3:LU8).length) inn d (.slice a its.length cap) e false false)[4]? =some (.slice a its.length cap)from rfl);have p4:=A0b (j:=4) o;have HR:=hid I;clear g k m o I N k4 f4;go_wp2;go_ret;rw[<-r.out];exact⟨rfl,_,_,HR.out⟩
  |ended=>
   rw[hr]at O r;clear hr D;go_wp2;go_quiet (fail)
   go_wp2_with fail
   refine Calls.mono (O.out _) ?_;rintro x X ⟨rfl,i⟩;unfold E7d;have z:=hid i;have N:=i.oi;have k4:=A0a i.blk (show(A0e l (l.length-([]:LU8).length) inn d (.slice a its.length cap) 0 true false)[4]? =some (.slice a its.length cap)from rfl);have f4:=A0b (j:=4) i.blk;clear i k0 k1
   go_wp2_with (first
    |(at_builtin;refine A0g _ rfl _ _ 22 rfl 29 i0 (.agg #[.int .i64 0,.int .i64 0,.int .u64 0,.string ⟨#[]⟩]) 4 40 Tryz.underlying22 hi Q R S rfl (by decide) _ _ _ rfl (N.alloc _) ⟨X.heap.size,0,none⟩ 1 1 (A1f ⟨4,0,0,[]⟩) rfl rfl ?c1 ?c2 ?c3 ?c4 ?_)
    |fail)
   case c1=>exact A3p _ _ _ _ _ _
   case c2=>intro u M;simp[A1f]at M;rcases M with rfl|rfl|rfl|rfl<;>rfl
   case c3=>unfold maxLen;omega
   case c4=>omega
   intro v' w1 g k m;obtain⟨V,W,t,rfl⟩:=A0h g;obtain⟨o,I⟩:=z.growI ⟨4,0,0,[]⟩ g k m;have q4:=A0a o (show(A0e l (l.length-([]:LU8).length) inn d (.slice a its.length cap) 0 true false)[4]? =some (.slice a its.length cap)from rfl);have p4:=A0b (j:=4) o;have HR:=hid I;clear g k m o I N k4 f4;go_wp2;go_ret;rw[<-r.out];exact⟨rfl,_,_,HR.out⟩
  |ok s q3=>
   rw[hr]at O r D;clear hr;go_wp2;go_quiet (fail)
   go_wp2_with fail
   refine Calls.mono (O.out _) ?_;rintro x X ⟨rfl,i⟩;unfold D3k;have z:=hid i;have N:=i.oi;have k4:=A0a i.blk (show(A0e l (l.length-(q3:LU8).length) inn d (.slice a its.length cap) 0 false false)[4]? =some (.slice a its.length cap)from rfl);have f4:=A0b (j:=4) i.blk;clear i k0 k1
   go_wp2_with (first
    |(at_builtin;refine A0g _ rfl _ _ 22 rfl 29 i0 (.agg #[.int .i64 0,.int .i64 0,.int .u64 0,.string ⟨#[]⟩]) 4 40 Tryz.underlying22 hi Q R S rfl (by decide) _ _ _ rfl (N.alloc _) ⟨X.heap.size,0,none⟩ 1 1 (A1f ⟨4,0,0,s⟩) rfl rfl ?c1 ?c2 ?c3 ?c4 ?_)
    |fail)
   case c1=>exact A3p _ _ _ _ _ _
   case c2=>intro u M;simp[A1f]at M;rcases M with rfl|rfl|rfl|rfl<;>rfl
   case c3=>unfold maxLen;omega
   case c4=>omega
   intro v' w1 g k m;obtain⟨V,W,t,rfl⟩:=A0h g;obtain⟨o,I⟩:=z.growI ⟨4,0,0,s⟩ g k m;have q4:=A0a o (show(A0e l (l.length-(q3:LU8).length) inn d (.slice a its.length cap) 0 false false)[4]? =some (.slice a its.length cap)from rfl);have p4:=A0b (j:=4) o;have Z:=hid (A2n B w0 _ l q3 inn d _ _ 0 false false (by omega) I);have L:=(A0x q3).length_le;have b3:q3.length<=q.length:=List.IsSuffix.length_le D.out;clear g k m o I N k4 f4 D
   go_wp2_with fail
   refine Calls.mono Z.out ?_;rintro x w4 ⟨rfl,i⟩;cases hy:A0s q3 with
   |nil=>
    rw[hy]at i r;have z:=hid i;clear i hy;go_wp2;go_ret;rw[<-r.out];exact⟨rfl,_,[⟨4,0,0,s⟩],z.out⟩
   |cons c2 q2=>
    rw[hy]at i r L;have b2:q2.length+1<=q3.length:=L;clear hy Z q4 p4 O G;have a5:c2.toNat<256:=c2.toNat_lt;have y:SC B w0 w4 l (c2::q2) inn d (.slice V W t) (its++[⟨4,0,0,s⟩]) 0 false false:=i;clear i;obtain⟨a0,hg⟩:=A3i y.suf;have k0:=A0a y.blk (show(A0e l (l.length-(c2::q2).length) inn d (.slice V W t) 0 false false)[0]? =some (.string (ofL l))from rfl);have k1:=A0a y.blk (show(A0e l (l.length-(c2::q2).length) inn d (.slice V W t) 0 false false)[1]? =some (.int .i64 ((l.length-(c2::q2).length:Nat):Int))from rfl);have f1:=A0b (j:=1) y.blk;have a6:(ofL l)[l.length-(c2::q2).length]'(by rw[a1];exact a0)=c2:=(A1d l _ _).trans hg;have G:=hid (λn=>A2m B w0 (w4.drewN n) l (c2::q2) inn d (.slice V W t) (its++[⟨4,0,0,s⟩]) 0 3 false false (y.drewN n));have hV:=hid (λn=>H1.out _ _ (its++[⟨4,0,0,s⟩]) q2 (by unfold A5g;simp only;omega) (by rw[List.length_append];simp only[List.length_cons,List.length_nil];omega) ((y.drewN n).step));generalize l.length-(c2::q2).length=ps2 at*;clear hg y;by_cases C:c2≠58
    ·have hb:((c2.toNat:Int)!=58)=true:=bne_iff_ne.2 (by have:=A0k C;simp at this;omega)
     have v:=r.out;simp only[if_pos C]at v;have v:=hid v;clear r C;go_wp2;go_quiet (fail)
     go_wp2_with fail
     refine Calls.mono (G.out _) ?_;rintro x w5 ⟨rfl,i⟩;have z:=hid i;clear i;go_wp2;go_ret;rw[<-v.out];exact⟨rfl,_,[⟨4,0,0,s⟩],z.out⟩
    obtain rfl:c2=58:=Classical.not_not.1 C;have v:=r.out;simp only[if_neg C]at v;have v:=hid v;clear r C;go_wp2;go_quiet (fail)
    go_wp2_with fail
    refine Calls.mono (hV.out _) ?_;intro x w5 F
    have HF:=hid (show∃b,x=.returned (.bool b)/\B1i B w0 l inn d its U x w5 by
     rw[<-v.out];cases hv:rGo d f inn .val q2 with
     |ok n new q5=>
      rw[hv]at F;obtain⟨H,E,J⟩:=F;exact⟨true,H,H,E,by rw[List.append_assoc]at J;exact J⟩
     |wrong e q5=>
      rw[hv]at F;obtain⟨H,E,a2,J⟩:=F;exact⟨false,H,H,E,_,by rw[List.append_assoc]at J;exact J⟩
     |ended la=>
      rw[hv]at F;obtain⟨H,E,a2,J⟩:=F
      exact⟨false,H,H,E,_,by rw[List.append_assoc]at J;exact J⟩)
    clear F;obtain⟨b,rfl,F⟩:=HF.out;have HP:=hid F;clear F HF;go_wp2;go_ret;exact HP.out
def Hs (d f:Nat):Prop:=∀(B:Nat) (w0 w:World) (l:LU8) (inn:Nat) (p:LU8) (vi:Value) (its:List It),l.length<=1800000->its.length+p.length<=8000000->inn<=d->SC B w0 w l p inn d vi its 0 false false->
 (A5g .val p<=f->Calls Tryz.prog 52 #[.pointer (some ⟨B,0,none⟩)] w (B1i B w0 l inn d its (rGo d f inn .val p)))/\
 (A5g .pair p<=f->Calls Tryz.prog 143 #[.pointer (some ⟨B,0,none⟩)] w (B1i B w0 l inn d its (rGo d f inn .pair p)))/\
 (A5g .vals p<=f->Calls Tryz.prog 90 #[.pointer (some ⟨B,0,none⟩)] w (D3p B w0 l inn d its (rGo d f inn .vals p)))/\
 (A5g .pairs p<=f->Calls Tryz.prog 89 #[.pointer (some ⟨B,0,none⟩)] w (D3p B w0 l inn d its (rGo d f inn .pairs p)))
theorem G3d (d:Nat) (m:d<=1000) (f:Nat):Hs d f:=by
 induction f using Nat.strongRecOn with
 |ind f ih=>
 intro B w0 w l inn p e its a j k h;cases f with
 |zero=>exact⟨λh0=>by unfold A5g at h0;simp only at h0;omega,λh0=>by unfold A5g at h0;simp only at h0;omega,λh0=>by unfold A5g at h0;simp only at h0;omega,λh0=>by unfold A5g at h0;simp only at h0;omega⟩
 |succ f=>
  have s:∀f',f'<=f->Hs d f':=λf' hf'=>ih f' (by omega)
  refine⟨λhn=>?_,λhn=>?_,λhn=>?_,λhn=>?_⟩
  ·have r:=(A0x p).length_le
   cases g:A0s p with
   |nil=>exact E7x B w0 w l p f inn d e its a h g
   |cons c q=>
    rw[g]at r;have t:q.length+1<=p.length:=r;unfold A5g at hn;simp only at hn;by_cases n:c=34
    ·exact E0i B w0 w l p q c f inn d e its a (by omega) m h g n
    by_cases i:c=91
    ·by_cases o:inn=d
     ·exact C2g B w0 w l p q c f inn d e its a (by omega) m h g i o
     ·exact C2h B w0 w l p q c f inn d e its a (by omega) m h g i o (by omega) λw' vi' h'=>(s f (Nat.le_refl _) B w0 w' l (inn+1) q vi' _ a (by simp;omega) (by omega) h').2.2.1 (by unfold A5g;simp only;omega)
    by_cases b:c=123
    ·by_cases o:inn=d
     ·exact C2i B w0 w l p q c f inn d e its a (by omega) m h g b o
     ·exact C2j B w0 w l p q c f inn d e its a (by omega) m h g b o (by omega) λw' vi' h'=>(s f (Nat.le_refl _) B w0 w' l (inn+1) q vi' _ a (by simp;omega) (by omega) h').2.2.2 (by unfold A5g;simp only;omega)
    exact E0j B w0 w l p q c f inn d e its a (by omega) m h g n i b
  ·exact F4g B w0 w l p f inn d e its a j hn h λw' vi' its' p' h1 h2 h3=>(s f (Nat.le_refl _) B w0 w' l inn p' vi' its' a h2 k h3).1 h1
  ·exact F4e B w0 w l p f inn d e its a j hn h λf' w' vi' its' p' hf' h1 h2 h3=>(s f' hf' B w0 w' l inn p' vi' its' a h2 k h3).1 h1
  ·exact E7z B w0 w l p f inn d e its a j hn h λf' w' vi' its' p' hf' h1 h2 h3=>(s f' hf' B w0 w' l inn p' vi' its' a h2 k h3).2.1 h1
noncomputable def E8a (d:Nat) (l:LU8) (whole:Bool):List It×Nat×Nat:=
 if D2d (A0p (ps0 d) l)≠0\/whole=true then A5m (A0p (ps0 d) l)else([],0,0)
def G3e (w0:World) (U:List It×Nat×Nat) (x:Ending) (w':World):Prop:=
 ∃v,x=.returned (.tuple #[v,.int .i64 (U.2.1:Int),.int .i64 (U.2.2:Int)])/\w'.ownsRow 0 29 4 v U.1.length (B3e U.1)/\Fr (λ_=>False) w0 w'/\∀i,v.ownBlock=some i->w0.heap.size<=i
theorem B2v (w:World):w.ownsRow 0 29 4 (.slice none 0 0) ([]:List It).length (B3e []):=⟨rfl,.inl ⟨rfl,rfl⟩⟩
theorem C4e {d n:Nat} {l p:LU8} {whole:Bool} (h:B1g d l=.wrong n p):n≠0/\E8a d l whole=([],n,l.length-p.length):=by
 have hr:=B0w d l;rw[h]at hr;have hr:A0p (ps0 d) l=.error (n,l.length-p.length):=hr;have a:=(A9z hr).1;refine⟨a,?_⟩;unfold E8a;rw[hr,if_pos (.inl a)];rfl
theorem F9j {d k:Nat} {l q:LU8} {its:List It} (h:B1g d l=.ok k its q):E8a d l true=(its,0,l.length)/\E8a d l false=([],0,0):=by
 have hr:=B0w d l;rw[h]at hr;obtain⟨a,b⟩:=hr;unfold E8a;rw[if_pos (.inr rfl),if_neg (by rw[a];simp)];exact⟨b,rfl⟩
theorem E0m {d:Nat} {l:LU8} {a:Bool} (h:B1g d l=.ended a):E8a d l true=([],F0m a,l.length)/\E8a d l false=([],0,0):=by
 have hr:=B0w d l;rw[h]at hr;obtain⟨b,c⟩:=hr;unfold E8a;rw[if_pos (.inr rfl),if_neg (by rw[b];simp)];exact⟨c,rfl⟩
theorem E8b (w:World) (l:LU8) (d:Nat) (whole:Bool) (O:l.length<=1800000) (N:d<=1000):
 Calls Tryz.prog 33 #[.string (ofL l),.int .i64 (d:Int),.bool whole] w (G3e w (E8a d l whole)):=by
 have B:SC w.heap.size w (w.alloc (.cells (A0e l 0 0 d (.slice none 0 0) 0 false false) 120)) l l 0 d (.slice none 0 0) [] 0 false false:=
  ⟨by rw[Nat.sub_self];exact heap_alloc_new w _,⟨rfl,.inl ⟨rfl,rfl⟩⟩,List.suffix_refl _,(Fr.refl _ _).alloc _,Nat.le_refl _,λi hi=>by cases hi⟩
 have v:=hid ((G3d d N (4*l.length+1) w.heap.size w _ l 0 l _ [] O (by simp;omega) (Nat.zero_le _) B).1 (Nat.le_refl _));obtain⟨F,I⟩:∃F,E8a d l whole=F:=⟨_,rfl⟩;rw[I];have s:=hid I;have Q:=A0c l
 have e:B1g d l=(match rGo d (4*l.length+1) 0 .val l with
  |.wrong n p=>.wrong n p
  |.ended late=>.ended late
  |.ok a its p=>match A0s p with
   |[]=>.ok a its []
   |c::q=>.wrong 3 (c::q)):=rfl
 clear B I;cases hr:rGo d (4*l.length+1) 0 .val l with
 |wrong n p=>
  rw[hr]at v e;obtain⟨J,g⟩:=C4e (whole:=whole) e;have H:=hid (show F=([],n,l.length-p.length) by rw[<-s.out];exact g);have P:((n:Int)!=0)=true:=bne_iff_ne.2 (by omega);clear hr e s J g;go_enter Tryz.func33,Tryz.ntmps33
  go_wp2_with fail
  refine Calls.mono v.out ?_;rintro x E ⟨rfl,h,C,b⟩;have K:=A0a b.blk (show(A0e l (l.length-p.length) 0 d h n false false)[5]? =some (.int .i64 (n:Int))from rfl);have R:=A0a b.blk (show(A0e l (l.length-p.length) 0 d h n false false)[1]? =some (.int .i64 ((l.length-p.length:Nat):Int))from rfl);have t:=hid (λn=>b.fr.drewN n);generalize l.length-p.length=ps at*;clear b;go_wp2;go_quiet (fail);go_wp2
  go_ret3
  rw[H.out];exact⟨_,rfl,B2v _,t.out _,λi hi=>by cases hi⟩
 |ended la=>
  rw[hr]at v e;obtain⟨m,o⟩:=E0m e;have r:=hid m;have u:=hid o;clear hr e m o;go_enter Tryz.func33,Tryz.ntmps33
  go_wp2_with fail
  refine Calls.mono v.out ?_;rintro x E ⟨rfl,h,C,b⟩;have K:=A0a b.blk (show(A0e l (l.length-([]:LU8).length) 0 d h 0 true la)[5]? =some (.int .i64 0)from rfl);have V:=A0a b.blk (show(A0e l (l.length-([]:LU8).length) 0 d h 0 true la)[7]? =some (.bool la)from rfl);have t:=hid (λn=>b.fr.drewN n);have k:=hid b.fr;clear b;cases whole with
  |false=>
   go_wp2
   go_ret3
   rw[<-s.out,u.out];exact⟨_,rfl,B2v _,k.out,λi hi=>by cases hi⟩
  |true=>
   cases la with
   |true=>
    go_wp2
    go_ret3
    rw[<-s.out,r.out];exact⟨_,rfl,B2v _,k.out,λi hi=>by cases hi⟩
   |false=>
    go_wp2
    go_ret3
    rw[<-s.out,r.out];exact⟨_,rfl,B2v _,k.out,λi hi=>by cases hi⟩
 |ok a its p=>
  rw[hr]at v e
  have e:B1g d l=match A0s p with
   |[]=>.ok a its []
   |c::q=>.wrong 3 (c::q):=e
  clear hr;cases y:A0s p with
  |nil=>
   rw[y]at e;obtain⟨m,o⟩:=F9j e;have r:=hid m;have u:=hid o;clear e m o;go_enter Tryz.func33,Tryz.ntmps33
   go_wp2_with fail
   refine Calls.mono v.out ?_;rintro x E ⟨rfl,h,b⟩;have z:=hid (A2n _ _ E l p 0 d h its 0 false false (by omega) b);rw[y]at z;clear b y
   go_wp2_with fail
   refine Calls.mono z.out ?_;rintro x L ⟨rfl,b⟩;obtain⟨A,D,f,rfl⟩:=A0h b.oi;have b:SC w.heap.size w L l [] 0 d (.slice A D f) its 0 true false:=b;have U:=A0a b.blk (show(A0e l (l.length-([]:LU8).length) 0 d (.slice A D f) 0 true false)[4]? =some (.slice A D f)from rfl);have K:=A0a b.blk (show(A0e l (l.length-([]:LU8).length) 0 d (.slice A D f) 0 true false)[5]? =some (.int .i64 0)from rfl);have S:=A0a b.blk (show(A0e l (l.length-([]:LU8).length) 0 d (.slice A D f) 0 true false)[6]? =some (.bool true)from rfl);have M:=A0b (j:=6) b.blk;have G:=hid (b.cell 6 (.bool false) (p':=[]) (inn':=0) (e':=0) (en':=false) (la':=false) b.suf rfl);clear b;cases whole with
   |false=>
    go_wp2
    go_ret3
    rw[<-s.out,u.out];exact⟨_,rfl,B2v _,G.fr,λi hi=>by cases hi⟩
   |true=>
    go_wp2
    go_ret3
    rw[<-s.out,r.out];exact⟨_,rfl,G.oi,G.fr,G.hv⟩
  |cons c q=>
   rw[y]at e;obtain⟨J,g⟩:=C4e (whole:=whole) e;have H:=hid (show F=([],3,l.length-(c::q).length) by rw[<-s.out];exact g);clear e s J g;go_enter Tryz.func33,Tryz.ntmps33
   go_wp2_with fail
   refine Calls.mono v.out ?_;rintro x E ⟨rfl,h,b⟩;have z:=hid (A2n _ _ E l p 0 d h its 0 false false (by omega) b);rw[y]at z;clear b y
   go_wp2_with fail
   refine Calls.mono z.out ?_;rintro x L ⟨rfl,b⟩;have b:SC w.heap.size w L l (c::q) 0 d h its 0 false false:=b;have R:=A0a b.blk (show(A0e l (l.length-(c::q).length) 0 d h 0 false false)[1]? =some (.int .i64 ((l.length-(c::q).length:Nat):Int))from rfl);have K:=A0a b.blk (show(A0e l (l.length-(c::q).length) 0 d h 0 false false)[5]? =some (.int .i64 0)from rfl);have S:=A0a b.blk (show(A0e l (l.length-(c::q).length) 0 d h 0 false false)[6]? =some (.bool false)from rfl);have T:=A0b (j:=5) b.blk;have M:=A0b (j:=6) b.blk;have t:=hid (λn=>(((b.fr.setCell (p:=⟨w.heap.size,5,none⟩) (.inr (Nat.le_refl _)) (.int .i64 3)).setCell (p:=⟨w.heap.size,6,none⟩) (.inr (Nat.le_refl _)) (.bool false))).drewN n);generalize l.length-(c::q).length=ps at*;clear b;go_wp2;go_quiet (fail);go_wp2
   go_ret3
   rw[H.out];exact⟨_,rfl,B2v _,t.out _,λi hi=>by cases hi⟩
theorem E8c (g j:Nat):(⟨g,0,none⟩:Addr).add j=⟨g,j,none⟩:=by unfold Addr.add;split<;>simp_all
theorem F9k (g j k:Nat):(⟨g,j,none⟩:Addr).add k=⟨g,j+k,none⟩:=by unfold Addr.add;split<;>simp_all
theorem B9r.lr {w:World} {g n cap:Nat} {l:List Im} (h:B9r w (.slice (some ⟨g,0,none⟩) n cap) l):LR w (some ⟨g,0,none⟩) l:=by
 have b:=A1a h;subst b;intro _;refine⟨_,rfl,B2a h,λi x hx=>?_⟩;have a:∀j,j<4->(F7g l)[i*4+j]? =(imC x)[j]? :=λj hj=>A4y l i j x hx hj
 refine⟨?_,?_,?_,?_⟩
 ·rw[E8c];exact A2c h (i*4) _ (a 0 (by omega))
 ·rw[E8c,F9k];exact A2c h (i*4+1) _ (a 1 (by omega))
 ·rw[E8c,F9k];exact A2c h (i*4+2) _ (a 2 (by omega))
 ·rw[E8c,F9k];exact A2c h (i*4+3) _ (a 3 (by omega))
theorem B9r.caps {w:World} {g n cap:Nat} {l:List Im} (h:B9r w (.slice (some ⟨g,0,none⟩) n cap) l):l.length<=cap/\cap<=9223372036854775807:=by
 rcases h.2 with⟨c,_⟩|⟨i,a,b,f,_,_,d,e,_⟩
 ·cases c
 ·cases f
  unfold maxLen at e;exact⟨d,by omega⟩
theorem F4h (w:World) (v:Value) (a indent:Int) (so:Bool) (h:a<1\/1000<a\/indent< -1\/16<indent):
 Calls Tryz.prog 19 #[v,.int .i64 a,.int .i64 indent,.bool so] w λe w'=>e=.returned (.agg #[.string (ofL []),.int .i64 1,.int .i64 0])/\Fr (λ_=>False) w w':=by
 by_cases b:a<1
 ·have f:decide (a<1)=true:=dcT b
  go_enter Tryz.func19,Tryz.ntmps19;go_wp2
  go_returns
  exact⟨rfl,(Fr.refl _ w).alloc _⟩
 ·have f:decide (a<1)=false:=dcF b
  by_cases c:1000<a
  ·have g:decide (1000<a)=true:=dcT c
   go_enter Tryz.func19,Tryz.ntmps19;go_wp2
   go_returns
   exact⟨rfl,(Fr.refl _ w).alloc _⟩
  ·have g:decide (1000<a)=false:=dcF c
   by_cases d:indent< -1
   ·have i:decide (indent< -1)=true:=dcT d
    go_enter Tryz.func19,Tryz.ntmps19;go_wp2
    go_returns
    exact⟨rfl,(Fr.refl _ w).alloc _⟩
   ·have i:decide (indent< -1)=false:=dcF d
    have j:decide (16<indent)=true:=dcT (by omega);go_enter Tryz.func19,Tryz.ntmps19;go_wp2
    go_returns
    exact⟨rfl,(Fr.refl _ w).alloc _⟩
theorem F9m (w:World) (pa:Option Addr) (cap d:Nat) (l:List (LU8)) (indent:Int) (so:Bool) (h:TR w pa l) (b1:1<=d) (T:d<=1000) (b2: -1<=indent) (b3:indent<=16) (hl:(A2v l).length<=1400000) (hn:l.length<=10000000):
 Calls Tryz.prog 19 #[.slice pa l.length cap,.int .i64 (d:Int),.int .i64 indent,.bool so] w λe w'=>e=.returned (.agg #[.string (ofL (B7u d indent so (A2v l)).1),.int .i64 (B7u d indent so (A2v l)).2.1,.int .i64 ((B7u d indent so (A2v l)).2.2:Int)])/\Fr (λ_=>False) w w':=by
 obtain⟨Z,D⟩:∃Z,B7u d indent so (A2v l)=Z:=⟨_,rfl⟩;rw[D];have N:=hid D;have S:=hid h
 have B:=hid (λwx=>show Calls Tryz.prog 33 #[.string (ofL (A2v l)),.int .i64 (d:Int),.bool true] wx (G3e wx (A5m (A0p (ps0 d) (A2v l))))from by
  have:=E8b wx (A2v l) d true (by omega) T;unfold E8a at this;rw[if_pos (.inr rfl)]at this
  exact this)
 have R:=hid hl;have P:=hid ((Fr.refl (λ_=>False) w).alloc (.cells #[.string ⟨#[]⟩,.int .i64 0,.int .i64 0] 42));clear h D hl;have a1:decide ((d:Int)<1)=false:=dcF (by omega);have a2:decide ((1000:Int)<(d:Int))=false:=dcF (by omega);have a3:decide (indent< -1)=false:=dcF (by omega);have a4:decide (16<indent)=false:=dcF (by omega);obtain⟨n,a8⟩:∃n,l.length=n:=⟨_,rfl⟩;rw[a8]at hn ⊢;go_enter Tryz.func19,Tryz.ntmps19;go_wp2
 go_loopw [9,10] (λsv iv wr=>∃i:Nat,sv=.string (ofL (A2v (l.take i)))/\iv=.int .i64 (i:Int)/\i<=n/\Hid (wr=w.alloc (.cells #[.string ⟨#[]⟩,.int .i64 0,.int .i64 0] 42))) (λ_ iv _=>n-(intOf iv).toNat)
 case atStart=>exact⟨0,rfl,rfl,Nat.zero_le _,hid rfl⟩
 case round=>
  obtain⟨i,rfl,rfl,b4,hw⟩:=hrel;have b0:=hw.out;subst b0;by_cases hi:i<n
  ·have hz:(i:Int)<(n:Int):=by omega
   obtain⟨s,hs⟩:∃s,l[i]? =some s:=⟨_,List.getElem?_eq_getElem (by omega)⟩;obtain⟨ad,a9,-⟩:=S.out (by rintro rfl;simp at hs);subst a9;have c0:=(S.fr P.out).at_ hs;have HJ:=hid (D0q hs);have a6:=E6y l (i+1);rw[HJ.out,List.length_append]at a6;have b5:=R.out;generalize A2v (l.take i)=J at*;have z1:=A0c J;have z2:=A0c s;have b6:(ofL J).size+(ofL s).size<=1400000:=by omega
   clear hs;go_wp2;go_roundw
   case rel=>
    refine⟨i+1,?_,by simp,by omega,hid (by first|trivial|rfl)⟩;rw[HJ.out]
    first|rfl|(simp[A0j];done)|(rw[<-A0j])|trace_state
   case measure=>simp only[intOf];omega
  ·obtain rfl:i=n:=by omega
   have hz:¬(i:Int)<(i:Int):=by omega
   have u:l.take i=l:=List.take_of_length_le (by omega);rw[u];obtain⟨f,r⟩:∃f,A5m (A0p (ps0 d) (A2v l))=f:=⟨_,rfl⟩;have m:=hid r;rw[r]at B;clear r u
   go_wp2_with fail
   refine Calls.mono (B.out _) ?_;rintro e M ⟨V,rfl,y,F,-⟩;have O:=hid (P.trans F);have H:=F.heap (heap_alloc_new w (.cells #[.string ⟨#[]⟩,.int .i64 0,.int .i64 0] 42)) id;have r0:M.cell? ⟨w.heap.size,0,none⟩=some (.string ⟨#[]⟩):=A0a H rfl;have r1:M.cell? ⟨w.heap.size,1,none⟩=some (.int .i64 0):=A0a H rfl;have r2:M.cell? ⟨w.heap.size,2,none⟩=some (.int .i64 0):=A0a H rfl;have rf:∀j,M.frozen? ⟨w.heap.size,j,none⟩=false:=λ_=>A0b H
   have t:=hid (λa b c=>D6c H a b c);have Q:=hid H;have k:=hid y;clear y F H B;by_cases L:f.2.1=0
   ·have a5:((f.2.1:Int)!=0)=false:=by simp[L]
    have q:(A5m (A0p (ps0 d) (A2v l))).2.1=0:=by rw[m.out];exact L
    have K:=D6b (so:=so) T (show¬(indent< -1\/16<indent) by omega) q;have Y:=D5z q;have X:=D6a q;have W:=F5s f.1;obtain⟨v1,v2,v3⟩:=B3z q;rw[m.out]at K Y X v1 v2 v3;obtain⟨p1,p2⟩:=D5s f.1;have a7:=R.out;obtain⟨va,vn,vc,rfl⟩:=A0h k.out;have I:=A1a k.out;have U:0<f.1.length:=by cases hq:f.1 with|nil=>exact absurd hq v1|cons _ _=>simp
    obtain⟨g,rfl⟩:=A5s k.out (by omega)
    have o:B9r M (.slice (some ⟨g,0,none⟩) (ims f.1).length vc) (ims f.1):=by
     unfold B9r;rw[G2v,A2p];rw[I]at k;exact k.out
    have z:=hid (D9q M (some ⟨g,0,none⟩) vc (ims f.1) indent so o.lr o.caps.1 o.caps.2 (by rw[A2p];omega) (λx hx=>by have:=W x hx;omega) v3 (by show wt f.1<=_;omega));rw[K,A2p,<-I]at z
    have HA:=hid (show Z=(wrD indent so 1000 (ims f.1),0,f.2.2) by
     rw[<-N.out];unfold B7u
     rw[if_neg (by omega),Int.toNat_natCast,m.out,if_neg (by omega)])
    generalize wrD indent so 1000 (ims f.1)=TX at*;generalize f.2.1=E at*;generalize f.2.2=A at*;subst L;clear K Y X W v1 v2 v3 p1 p2 a7 o U I k q
    go_wp2_with fail
    refine Calls.mono z.out ?_;rintro e w4 ⟨rfl,G⟩;have p:=G.heap Q.out id;have q0:w4.cell? ⟨w.heap.size,0,none⟩=some (.string ⟨#[]⟩):=A0a p rfl;have q1:w4.cell? ⟨w.heap.size,1,none⟩=some (.int .i64 0):=A0a p rfl;have q2:w4.cell? ⟨w.heap.size,2,none⟩=some (.int .i64 0):=A0a p rfl;have qf:∀j,w4.frozen? ⟨w.heap.size,j,none⟩=false:=λ_=>A0b p
    have C:=hid (λa b c=>D6c p a b c);have a0:=hid (O.trans G);clear p G r0 r1 r2 rf t Q z;go_wp2
    (try simp only[Exit.inBlock,Exit.then])
    refine bodyPost_ret (v:=.agg #[.string (ofL TX),.int .i64 0,.int .i64 (A:Int)]) (results_cell_row rfl _ _ w.heap.size 42 _ (0,0) _ rfl (C.out _ _ _) Tryz.underlying42 rfl (by kernel_rfl)) rfl ?_;rw[HA.out];exact⟨rfl,B0k a0.out _ _ _⟩
   ·have a5:((f.2.1:Int)!=0)=true:=by simp[L]
    have HA:=hid (show Z=([],(f.2.1:Int),f.2.2) by
     rw[<-N.out];unfold B7u
     rw[if_neg (by omega),Int.toNat_natCast,m.out,if_pos L])
    generalize f.2.1=E at*;generalize f.2.2=A at*;clear L;go_wp2
    (try simp only[Exit.inBlock,Exit.then])
    refine bodyPost_ret (v:=.agg #[.string ⟨#[]⟩,.int .i64 (E:Int),.int .i64 (A:Int)]) (results_cell_row rfl _ _ w.heap.size 42 _ (0,0) _ rfl (t.out _ _ _) Tryz.underlying42 rfl (by kernel_rfl)) rfl ?_;rw[HA.out];exact⟨rfl,B0k O.out _ _ _⟩
theorem Tryz.info9B:(Tryz.prog.info? 9).map (λi=>(i.zero,i.size,i.bytes))=some (some (.string ⟨#[]⟩),1,16):=by kernel_rfl
theorem Tryz.size9B:(Tryz.prog.info? 9).map (·.size)=some 1:=by kernel_rfl
def tV (l:List (LU8)):List Value:=l.map (λs=>Value.string (ofL s))
def B3j:LU8:=[115,112,97,114,101]
def F4i:LU8:=[103,111,110,101]
def TB (w:World) (g:Nat) (L:List (LU8)):Prop:=w.heap[g]? =some (.cells (tV L).toArray 9 (0,0))
theorem TB.fr {w w':World} {g:Nat} {L:List (LU8)} {S:Nat->Prop} (h:TB w g L) (a:Fr S w w') (b:¬S g):TB w' g L:=a.heap h b
theorem TB.set {w:World} {g:Nat} {L:List (LU8)} (h:TB w g L) (i:Nat) (x:LU8):TB (w.setCell ⟨g,i,none⟩ (.string (ofL x))) g (L.set i x):=by
 have a:=heap_setCell_same w g i _ 9 (.string (ofL x)) h;unfold TB;rw[a];simp[tV,List.map_set]
theorem TB.cell {w:World} {g:Nat} {L:List (LU8)} (h:TB w g L) {i:Nat} {s:LU8} (a:L[i]? =some s):w.cell? ⟨g,i,none⟩=some (.string (ofL s))/\w.frozen? ⟨g,i,none⟩=false:=
 ⟨A0a h (by simp[tV,a]),A0b h⟩
theorem TB.tr {w:World} {g:Nat} {A B:List (LU8)} (h:TB w g (A++B)):TR w (some ⟨g,0,none⟩) A:=by
 intro _;refine⟨_,rfl,lt_of_block h,λi s hs=>?_⟩;rw[E8c];exact(h.cell (by rw[List.getElem?_append_left (List.getElem?_eq_some_iff.1 hs).1];exact hs)).1
theorem F4j (w:World) (l:Option Addr) (cap:Nat) (a:List (LU8)) (h:TR w l a):∃W2,(Builtin.copy_ #[44,44] 3 #[.slice (some ⟨w.heap.size,0,none⟩) (a.length+8) (a.length+8),.slice l a.length cap]).run Tryz.prog (w.alloc (.cells (madeCells #[Value.string ⟨#[]⟩] (a.length+8)) 9))=.ok (goInt a.length) W2/\TB W2 w.heap.size (a++List.replicate 8 [])/\Fr (λ_=>False) w W2:=by
 have e:=(Fr.refl (λ_=>False) w).alloc (.cells (madeCells #[Value.string ⟨#[]⟩] (a.length+8)) 9)
 have f:TB (w.alloc (.cells (madeCells #[Value.string ⟨#[]⟩] (a.length+8)) 9)) w.heap.size (List.replicate (a.length+8) []):=by
  unfold TB;rw[heap_alloc_new]
  have:(madeCells #[Value.string ⟨#[]⟩] (a.length+8))=(tV (List.replicate (a.length+8) [])).toArray:=by
   rw[<-Array.toArray_toList (xs:=madeCells #[Value.string ⟨#[]⟩] (a.length+8)),toList_madeCells_one];simp[tV];rfl
  rw[this]
 by_cases k:a=[]
 ·subst k
  exact⟨_,run_copy_none _ 44 44 3 9 _ _ _ _ _ _ Tryz.underlying44 Tryz.size9B (by simp),by simpa using f,e⟩
 ·obtain⟨i,rfl,n,m⟩:=h.fr e k
  have c:(tV a).length=a.length:=by simp[tV]
  have d:∀j v,(tV a)[j]? =some v->(w.alloc (.cells (madeCells #[Value.string ⟨#[]⟩] (a.length+8)) 9)).cell? (i.add j)=some v:=by
   intro j v b;unfold tV at b;rw[List.getElem?_map]at b;cases g:a[j]? with
   |none=>rw[g]at b;cases b
   |some s=>rw[g]at b;simp at b;rw[<-b];exact m j s g
  have hr:=run_copy_row Tryz.prog _ 44 44 3 9 w.heap.size 0 (a.length+8) (a.length+8) i a.length cap _ 9 (tV a) Tryz.underlying44 Tryz.size9B f (by rw[c];exact(Nat.min_eq_left (by omega)).symm) d (by simp[tV]) (λv b=>by
   obtain⟨s,_,rfl⟩:=List.mem_map.1 b
   rfl)
  rw[c]at hr;refine⟨_,hr,?_,e.setRow (.inr (Nat.le_refl _)) _⟩;unfold TB;rw[setRow_heap _ _ _ _ 9 (0,0) f];simp[tV]
theorem G4v (w:World) (n:Nat) (a:n<=10000000):(Instr.makeSlice 44 (.int .i64 ((n:Int)+8)) (.int .i64 ((n:Int)+8))).run Tryz.prog w=.ok (.slice (some ⟨w.heap.size,0,none⟩) (n+8) (n+8)) (w.alloc (.cells (madeCells #[Value.string ⟨#[]⟩] (n+8)) 9)):=by
 have:=run_make_row' (P:=Tryz.prog) 44 9 (.string ⟨#[]⟩) 16 Tryz.underlying44 Tryz.info9B rfl .i64 .i64 (n+8) (by omega) (by omega) w;rw[show(((n+8:Nat)):Int)=(n:Int)+8 by omega]at this;exact this
theorem E8d (w:World) (t:Option Addr) (cap:Nat) (b:List (LU8)) (h:TR w t b) (A:b.length<=9000000):
 Calls Tryz.prog 17 #[.slice t b.length cap] w λe w'=>e=.returned (.slice (some ⟨w.heap.size,0,none⟩) (b.length+8) (b.length+8))/\TB w' w.heap.size (b++List.replicate 8 B3j)/\Fr (λ_=>False) w w':=by
 have q:=λwx=>G4v wx b.length (by omega)
 obtain⟨C,o,a,m⟩:=F4j w t cap b h;have f:=hid a;have k:=hid m;have c:=hid (show(b++List.replicate 8 ([]:LU8)).length=b.length+8 by simp);clear h a m;obtain⟨n,v⟩:∃n,b.length=n:=⟨_,rfl⟩;rw[v]at q o c A ⊢;go_enter Tryz.func17,Tryz.ntmps17;go_wp2
 go_loopw [4] (λiv wr=>∃(i:Nat) (L:List (LU8)),iv=.int .i64 (i:Int)/\n<=i/\i<=n+8/\Hid (L.length=n+8)/\Hid (TB wr w.heap.size L)/\Hid (Fr (λ_=>False) w wr)/\Hid (L=b++(List.replicate (i-n) B3j++List.replicate (8-(i-n)) []))) (λiv _=>n+8-(intOf iv).toNat)
 case atStart=>exact⟨n,_,rfl,Nat.le_refl _,by omega,c,f,k,hid (by rw[Nat.sub_self];rfl)⟩
 case round=>
  clear f k c o q;obtain⟨i,L,rfl,F,G,g,a,u,s⟩:=hrel;by_cases z:i<n+8
  ·have B:(i:Int)<(n:Int)+8:=by omega
   obtain⟨x,y⟩:∃x,L[i]? =some x:=⟨_,List.getElem?_eq_getElem (by rw[g.out];exact z)⟩;obtain⟨D,E⟩:=a.cell y;have l:=hid (show TB (wr.setCell ⟨w.heap.size,i,none⟩ (.string ⟨#[115,112,97,114,101]⟩)) w.heap.size (L.set i B3j)from a.set i B3j);have r:=hid (u.setCell (p:=⟨w.heap.size,i,none⟩) (.inr (Nat.le_refl _)) (.string ⟨#[115,112,97,114,101]⟩));clear y;go_wp2;go_roundw
   case rel=>
    refine⟨i+1,L.set i B3j,by simp,by omega,by omega,hid (by rw[List.length_set];exact g.out),l,r,hid ?_⟩;rw[s.out];obtain⟨j,rfl⟩:∃j,i=n+j:=⟨i-n,by omega⟩;rw[show n+j-n=j by omega,show n+j+1-n=j+1 by omega,List.set_append_right _ _ (by omega),v,show n+j-n=j by omega,List.set_append_right _ _ (by simp),List.length_replicate,Nat.sub_self,show 8-j=(8-(j+1))+1 by omega,List.replicate_succ,List.set_cons_zero,List.replicate_succ',List.append_assoc];rfl
   case measure=>simp only[intOf];omega
  ·obtain rfl:i=n+8:=by omega
   have B:¬((n+8:Nat):Int)<(n:Int)+8:=by omega
   have d:=a.out;rw[s.out,show n+8-n=8 by omega,Nat.sub_self,List.replicate_zero,List.append_nil]at d;have f:=hid d;clear a d s g;go_wp2;go_ret;exact⟨rfl,f.out,u.out⟩
theorem E8e (w0 w:World) (g:Nat) (H:Option Addr) (cap:Nat) (a:List (LU8)) (h:TR w0 H a) (m:Fr (λ_=>False) w0 w) (J:w0.heap.size<=g) (q:TB w g (a++List.replicate 8 B3j)) (M:a.length<=9000000):
 Calls Tryz.prog 18 #[.slice (some ⟨g,0,none⟩) (a.length+8) (a.length+8),.slice H a.length cap] w λe w'=>e=.returned (.bool true)/\Fr (λ_=>False) w0 w'/\Fr (λk=>k=g) w w':=by
 have l:=hid h;have D:=hid q;have E:=hid m;have c:=hid (show(a++List.replicate 8 B3j).length=a.length+8 by simp);clear h q m;obtain⟨n,G⟩:∃n,a.length=n:=⟨_,rfl⟩;rw[G]at c M ⊢;go_enter Tryz.func18,Tryz.ntmps18;go_wp2
 go_loopw [5,6] (λok iv wr=>∃(i:Nat) (L:List (LU8)),ok=.bool true/\iv=.int .i64 (i:Int)/\i<=n+8/\Hid (L.length=n+8)/\Hid (TB wr g L)/\Hid (Fr (λ_=>False) w0 wr)/\Hid (Fr (λk=>k=g) w wr)/\Hid (∀k,i<=k->L[k]? =(a++List.replicate 8 B3j)[k]?)) (λ_ iv _=>n+8-(intOf iv).toNat)
 case atStart=>exact⟨0,_,rfl,rfl,Nat.zero_le _,c,D,E,hid (Fr.refl _ w),hid (λ_ _=>rfl)⟩
 case round=>
  clear D E c;obtain⟨i,L,rfl,rfl,K,o,t,y,F,u⟩:=hrel;by_cases P:i<n+8
  ·have C:(i:Int)<(n:Int)+8:=by omega
   have b:=u.out i (Nat.le_refl _);have d:=hid (show TB (wr.setCell ⟨g,i,none⟩ (.string ⟨#[103,111,110,101]⟩)) g (L.set i F4i)from t.set i F4i);have f:=hid (y.setCell (p:=⟨g,i,none⟩) (.inr J) (.string ⟨#[103,111,110,101]⟩));have j:=hid (F.setCell (p:=⟨g,i,none⟩) (.inl rfl) (.string ⟨#[103,111,110,101]⟩));by_cases z:i<n
   ·have r:(i:Int)<(n:Int):=by omega
    obtain⟨s,v⟩:∃s,a[i]? =some s:=⟨_,List.getElem?_eq_getElem (by rw[G];exact z)⟩;rw[List.getElem?_append_left (by omega),v]at b;obtain⟨N,A,-⟩:=l.out (by rintro rfl;simp at v);subst A;have Q:=(l.fr y.out).at_ v;obtain⟨x,I⟩:=t.cell b;have B:((ofL s).toList==(ofL s).toList)=true:=beq_self_eq_true _;clear v b;go_wp2;go_roundw
    case rel=>
     refine⟨i+1,L.set i F4i,by first|rfl|trivial,by simp,by omega,hid (by rw[List.length_set];exact o.out),d,f,j,hid (λk b=>?_)⟩;rw[List.getElem?_set_ne (by omega)];exact u.out k (by omega)
    case measure=>simp only[intOf];omega
   ·have r:¬(i:Int)<(n:Int):=by omega
    rw[List.getElem?_append_right (by omega),List.getElem?_replicate,if_pos (by omega)]at b;obtain⟨x,I⟩:=t.cell b;have O:wr.cell? ⟨g,i,none⟩=some (.string ⟨#[115,112,97,114,101]⟩):=x;have B:((ByteArray.mk #[115,112,97,114,101]).toList==(ByteArray.mk #[115,112,97,114,101]).toList)=true:=beq_self_eq_true _;clear b x;go_wp2;go_roundw
    case rel=>
     refine⟨i+1,L.set i F4i,by first|rfl|trivial,by simp,by omega,hid (by rw[List.length_set];exact o.out),d,f,j,hid (λk b=>?_)⟩;rw[List.getElem?_set_ne (by omega)];exact u.out k (by omega)
    case measure=>simp only[intOf];omega
  ·obtain rfl:i=n+8:=by omega
   have C:¬((n+8:Nat):Int)<(n:Int)+8:=by omega
   clear u t;go_wp2;go_ret;exact⟨rfl,y.out,F.out⟩
end Go.Proofs.YtmkkibaacclhnaaGreatDoor
