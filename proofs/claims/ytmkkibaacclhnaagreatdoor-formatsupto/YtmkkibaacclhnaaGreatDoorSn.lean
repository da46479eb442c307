/-
  Part Sn.
-/
import Derived.Test.YtmkkibaacclhnaaGreatDoorSk
import Derived.Deep.MidRow
namespace Go.Proofs.YtmkkibaacclhnaaGreatDoor
open Go.RowKit
set_option maxRecDepth 100000
set_option maxHeartbeats 40000000
def B6t:Md->Nat
 |.valsGo _ acc=>acc.length
 |.pairsGo _ acc=>acc.length
 |_=>0
def RV.lenOk (b:Nat):RV->Prop
 |.ok _ new q=>new.length+q.length<=b
 |_=>True
theorem RV.lenOk.mono {a b:Nat} {x:RV} (h:x.lenOk a) (c:a<=b):x.lenOk b:=by
 cases x with
 |ok n new q=>exact Nat.le_trans h c
 |wrong e q=>trivial
 |ended l=>trivial
theorem E0g {w r q:LU8} {a:Unit} (h:A3a w r=.ok a q):w.length+q.length=r.length:=by
 induction w generalizing r with
 |nil=>rw[A3a]at h;cases h;simp
 |cons x w ih=>
  cases r with
  |nil=>rw[A3a]at h;cases h
  |cons c r=>
   rw[A3a]at h;split at h
   ·cases h
   ·have:=ih h
    simp;omega
theorem C1d (k:Nat) (x:UInt8) (w r:LU8):(A8n k (x::w) r).lenOk r.length:=by
 unfold A8n;cases b:A3a (x::w) r with
 |ok a q=>
  have:=E0g b
  show[(⟨k,0,0,[]⟩:It)].length+q.length<=r.length
  simp at this ⊢;omega
 |wrong n q=>trivial
 |ended=>trivial
theorem E0h (inn:Nat) (c:UInt8) (q:LU8):(A4v inn (c::q)).lenOk (c::q).length:=by
 unfold A4v;rw[A5n];cases a:nxt t0 c with
 |none=>
  simp only;rw[C0k (show¬A8b t0.st by unfold A8b;decide),if_pos (by decide)];trivial
 |some t'=>
  simp only;split
  ·trivial
  ·rename_i t q' hx
   split at hx
   ·cases hx
   have h:=B4r t' q;rw[hx]at h;have:=h.1.length_le;split
   ·trivial
   ·show[_].length+q'.length<=_
    simp;omega
  ·split
   ·show[_].length+0<=_
    simp
   ·trivial
theorem D0r {k b:Nat} {x:RV} (h:x.lenOk b):(B7r k x).lenOk (b+1):=by
 cases x with
 |ok n its q=>
  have h:its.length+q.length<=b:=h
  show(_::its).length+q.length<=b+1
  simp;omega
 |wrong e q=>trivial
 |ended l=>trivial
theorem E7v (r:LU8):(B2y r).lenOk (r.length+1):=by
 have h:=B0a tr0 r;unfold B2y;cases b:A1i tr0 r with
 |ok a q=>
  rw[b]at h;have:=List.IsSuffix.length_le h
  show[_].length+q.length<=_
  simp;omega
 |wrong n q=>trivial
 |ended=>trivial
theorem E7w (d f inn:Nat) (m:Md) (r:LU8):(rGo d f inn m r).lenOk (B6t m+r.length):=by
 induction f generalizing inn m r with
 |zero=>trivial
 |succ f ih=>
  have b:=(A0x r).length_le;rw[rGo.eq_def];cases m with
  |val=>
   simp only;cases i:A0s r with
   |nil=>trivial
   |cons c q=>
    rw[i]at b;have g:q.length+1<=r.length:=b;simp only[B6t,Nat.zero_add]
    repeat' split
    ·exact(E7v q).mono g
    ·trivial
    ·exact(D0r (ih _ _ _)).mono (by simp only[B6t];omega)
    ·trivial
    ·exact(D0r (ih _ _ _)).mono (by simp only[B6t];omega)
    ·exact(E0h _ _ _).mono b
    ·exact(C1d _ _ _ _).mono b
    ·exact(C1d _ _ _ _).mono b
    ·exact(C1d _ _ _ _).mono b
    ·trivial
  |vals=>
   simp only;cases i:A0s r with
   |nil=>trivial
   |cons c q=>
    rw[i]at b;have g:q.length+1<=r.length:=b;simp only;split
    ·show([]:List It).length+q.length<=_
     simp[B6t];omega
    ·exact(ih _ _ _).mono (by simp[B6t]at b ⊢;omega)
  |pairs=>
   simp only;cases i:A0s r with
   |nil=>trivial
   |cons c q=>
    rw[i]at b;have g:q.length+1<=r.length:=b;simp only;split
    ·show([]:List It).length+q.length<=_
     simp[B6t];omega
    ·exact(ih _ _ _).mono (by simp[B6t]at b ⊢;omega)
  |valsGo n acc=>
   simp only;have h:=ih inn .val r;cases k:rGo d f inn .val r with
   |wrong e q=>trivial
   |ended l=>trivial
   |ok a its p=>
    rw[k]at h;have h:its.length+p.length<=0+r.length:=h;have b:=(A0x p).length_le;simp only;cases i:A0s p with
    |nil=>trivial
    |cons c q=>
     rw[i]at b;have g:q.length+1<=p.length:=b;simp only
     repeat' split
     ·show(acc++its).length+q.length<=_
      simp[B6t];omega
     ·exact(ih _ _ _).mono (by simp[B6t];omega)
     ·trivial
  |pairsGo n acc=>
   simp only;have h:=ih inn .pair r;cases k:rGo d f inn .pair r with
   |wrong e q=>trivial
   |ended l=>trivial
   |ok a its p=>
    rw[k]at h;have h:its.length+p.length<=0+r.length:=h;have b:=(A0x p).length_le;simp only;cases i:A0s p with
    |nil=>trivial
    |cons c q=>
     rw[i]at b;have g:q.length+1<=p.length:=b;simp only
     repeat' split
     ·show(acc++its).length+q.length<=_
      simp[B6t];omega
     ·exact(ih _ _ _).mono (by simp[B6t];omega)
     ·trivial
  |pair=>
   simp only;cases i:A0s r with
   |nil=>trivial
   |cons c q=>
    rw[i]at b;have g:q.length+1<=r.length:=b;simp only;split
    ·trivial
    ·have h:=B0a tr0 q
     cases k:A1i tr0 q with
     |wrong e p=>trivial
     |ended=>trivial
     |ok s p=>
      rw[k]at h;have h:=List.IsSuffix.length_le h;have j:=(A0x p).length_le;simp only;cases v:A0s p with
      |nil=>trivial
      |cons c2 q2=>
       rw[v]at j;have t:q2.length+1<=p.length:=j;simp only;split
       ·trivial
       ·have o:=ih inn .val q2
        cases u:rGo d f inn .val q2 with
        |wrong e p2=>trivial
        |ended l=>trivial
        |ok a its p2=>
         rw[u]at o;have o:its.length+p2.length<=0+q2.length:=o
         show(_::its).length+p2.length<=_
         simp[B6t];omega
theorem set4 (A C:List Value) (e f g i a b c d:Value) (n:Nat) (h:A.length=n):
 ((((A++([e,f,g,i]++C)).set n a).set (n+1) b).set (n+2) c).set (n+3) d=A++([a,b,c,d]++C):=by
 subst h;rw[List.set_append_right _ _ (by omega),List.set_append_right _ _ (by omega),List.set_append_right _ _ (by omega),List.set_append_right _ _ (by omega)];simp
theorem SC.setItem {B:Nat} {w0 w:World} {l p:LU8} {inn d:Nat} {g n cap:Nat} {its m:List It} {x y:It} {e:Nat} {en v:Bool} (h:SC B w0 w l p inn d (.slice (some ⟨g,0,none⟩) n cap) (its++x::m) e en v) (o:Nat) (E:o=its.length*4):
 SC B w0 ((((w.setCell ⟨g,o,none⟩ (.int .i64 (y.k:Int))).setCell ⟨g,o+1,none⟩ (.int .i64 (y.n:Int))).setCell ⟨g,o+2,none⟩ (.int .u64 (y.b:Int))).setCell ⟨g,o+3,none⟩ (.string (ofL y.s))) l p inn d (.slice (some ⟨g,0,none⟩) n cap) (its++y::m) e en v:=by
 obtain rfl:=A1a h.oi;obtain⟨a,b,c,f,C,t⟩:=h;have hro:=A8y b a (show 120≠29 by decide);have r:g≠B:=by rintro rfl;exact hro rfl
 have q:=t g rfl;have i:∀(W:World) (j:Nat) (u:Value),(W.setCell ⟨g,j,none⟩ u).heap[B]? =W.heap[B]? :=λW j u=>heap_setCell_other W ⟨g,j,none⟩ B u (λe=>r e.symm)
 have z:B3e (its++x::m)=B3e its++([.int .i64 (x.k:Int),.int .i64 (x.n:Int),.int .u64 (x.b:Int),.string (ofL x.s)]++B3e m):=by rw[B0r];rfl
 have A:B3e (its++y::m)=B3e its++([.int .i64 (y.k:Int),.int .i64 (y.n:Int),.int .u64 (y.b:Int),.string (ofL y.s)]++B3e m):=by rw[B0r];rfl
 have D:(its++x::m).length=(its++y::m).length:=by simp
 refine⟨?_,?_,c,((((f.setCell (p:=⟨g,o,none⟩) (.inr q) _).setCell (p:=⟨g,o+1,none⟩) (.inr q) _).setCell (p:=⟨g,o+2,none⟩) (.inr q) _).setCell (p:=⟨g,o+3,none⟩) (.inr q) _),C,t⟩
 ·rw[i,i,i,i]
  exact a
 ·have:=B1s (B1s (B1s (B1s b o (.int .i64 (y.k:Int))) (o+1) (.int .i64 (y.n:Int))) (o+2) (.int .u64 (y.b:Int))) (o+3) (.string (ofL y.s))
  rw[z,set4 _ _ _ _ _ _ _ _ _ _ o (by rw[D1u];exact E.symm)]at this;rw[A,<-D];exact this
def G4u (n:Nat):Value:=.tuple #[.int .i64 (n:Int),.bool true]
def G5g (n:Nat):Value:=.tuple #[.int .i64 (n:Int),.bool false]
def D3p (B:Nat) (w0:World) (l:LU8) (inn d:Nat) (its:List It) (U:RV) (x:Ending) (w':World):Prop:=
 match U with
 |.ok n new q=>x=.returned (G4u n)/\∃vi,SC B w0 w' l q inn d vi (its++new) 0 false false
 |.wrong n q=>∃m,x=.returned (G5g m)/\∃vi more,SC B w0 w' l q inn d vi (its++more) n false false
 |.ended late=>∃m,x=.returned (G5g m)/\∃vi more,SC B w0 w' l [] inn d vi (its++more) 0 true late
theorem D3q {d f inn:Nat} {p:LU8} (h:A0s p=[]):rGo d (f+1) inn .val p=.ended false:=by
 rw[rGo.eq_def];simp only;rw[h]
theorem A5k {d f inn:Nat} {p q:LU8} {c:UInt8} (h:A0s p=c::q):rGo d (f+1) inn .val p=
 (if c=34 then B2y q
   else if c=91 then(if inn=d then .wrong 4 (c::q)else B7r 5 (rGo d f (inn+1) .vals q))
   else if c=123 then(if inn=d then .wrong 4 (c::q)else B7r 6 (rGo d f (inn+1) .pairs q))
   else if c=45\/isD c=true then A4v inn (c::q)
   else if c=110 then A8n 0 [110,117,108,108] (c::q)
   else if c=102 then A8n 1 [102,97,108,115,101] (c::q)
   else if c=116 then A8n 2 [116,114,117,101] (c::q)
   else .wrong 3 (c::q)):=by
 rw[rGo.eq_def];simp only;rw[h]
theorem E7x (B:Nat) (w0 w:World) (l p:LU8) (f inn d:Nat) (g:Value) (its:List It) (i:l.length<=1800000) (h:SC B w0 w l p inn d g its 0 false false) (a:A0s p=[]):
 Calls Tryz.prog 52 #[.pointer (some ⟨B,0,none⟩)] w (B1i B w0 l inn d its (rGo d (f+1) inn .val p)):=by
 rw[D3q a];have b:=hid (A2n B w0 w l p inn d _ its 0 false false (by omega) h);rw[a]at b;clear h a;go_enter Tryz.func52,Tryz.ntmps52
 go_wp2_with fail
 refine Calls.mono b.out ?_;rintro x j ⟨rfl,c⟩;have e:=hid c;clear c;go_wp2;go_ret;exact⟨rfl,_,[],by rw[List.append_nil];exact e.out⟩
theorem E0i (B:Nat) (w0 w:World) (l p q:LU8) (c:UInt8) (f inn d:Nat) (vi:Value) (its:List It) (hl:l.length<=1800000) (a3:its.length<=10000000) (_hd:d<=1000) (h:SC B w0 w l p inn d vi its 0 false false) (Q:A0s p=c::q) (J:c=34):
 Calls Tryz.prog 52 #[.pointer (some ⟨B,0,none⟩)] w (B1i B w0 l inn d its (rGo d (f+1) inn .val p)):=by
 obtain⟨a,n,cap,rfl⟩:=A0h h.oi;obtain rfl:=A1a h.oi;have V:=hid (A2n B w0 w l p inn d _ its 0 false false (by omega) h);rw[Q]at V;have P:=A0c l;have a1:c.toNat<256:=c.toNat_lt;obtain⟨U,K⟩:∃U,rGo d (f+1) inn .val p=U:=⟨_,rfl⟩;rw[K];rw[A5k Q]at K;clear h Q;rw[if_pos J]at K;subst J;obtain⟨R,N,z,A,C⟩:=info_parts Tryz.info29;have E:=hid K;clear K;go_enter Tryz.func52,Tryz.ntmps52
 go_wp2_with fail
 refine Calls.mono V.out ?_;rintro x w2 ⟨rfl,m⟩;have o:SC B w0 w2 l (34::q) inn d (.slice a its.length cap) its 0 false false:=m;clear m;obtain⟨O,X⟩:=A3i o.suf;have S:=A0a o.blk (show(A0e l (l.length-(34::q).length) inn d (.slice a its.length cap) 0 false false)[0]? =some (.string (ofL l))from rfl);have T:=A0a o.blk (show(A0e l (l.length-(34::q).length) inn d (.slice a its.length cap) 0 false false)[1]? =some (.int .i64 ((l.length-(34::q).length:Nat):Int))from rfl);have a2:(ofL l)[l.length-(34::q).length]'(by rw[P];exact O)=34:=(A1d l _ _).trans X;have a0:=hid o;have D:=hid (λn=>D6f B w0 (w2.drewN n) l 34 q inn d (.slice a its.length cap) its (by omega) (o.drewN n));generalize l.length-(34::q).length=ps at*;clear X o;cases hr:A1i tr0 q with
 |ok s q3=>
  rw[hr]at D;have G:=hid (show U=.ok 0 [⟨4,0,0,s⟩] q3 by rw[<-E.out,B2y,hr]);clear hr E;go_wp2;go_quiet (fail)
  go_wp2_with fail
  refine Calls.mono (D.out _) ?_;rintro x M ⟨rfl,m⟩;unfold D3k;have F:=hid m;have y:=m.oi;have L:=A0a m.blk (show(A0e l (l.length-(q3:LU8).length) inn d (.slice a its.length cap) 0 false false)[4]? =some (.slice a its.length cap)from rfl);have I:=A0b (j:=4) m.blk;clear m S T
  go_wp2_with (first
   |(at_builtin;refine A0g _ rfl _ _ 22 rfl 29 R (.agg #[.int .i64 0,.int .i64 0,.int .u64 0,.string ⟨#[]⟩]) 4 40 Tryz.underlying22 N z A C rfl (by decide) _ _ _ rfl (y.alloc _) ⟨M.heap.size,0,none⟩ 1 1 (A1f ⟨4,0,0,s⟩) rfl rfl ?c1 ?c2 ?c3 ?c4 ?_)
   |fail)
  case c1=>exact A3p _ _ _ _ _ _
  case c2=>intro u v;simp[A1f]at v;rcases v with rfl|rfl|rfl|rfl<;>rfl
  case c3=>unfold maxLen;omega
  case c4=>omega
  intro v' w1 b g i;obtain⟨W,Y,r,rfl⟩:=A0h b;obtain⟨k,t⟩:=F.growI ⟨4,0,0,s⟩ b g i;have q4:=A0a k (show(A0e l (l.length-(q3:LU8).length) inn d (.slice a its.length cap) 0 false false)[4]? =some (.slice a its.length cap)from rfl);have Z:=A0b (j:=4) k;have H:=hid t;clear b g i k t y L I;go_wp2;go_ret;rw[G.out];exact⟨rfl,_,H.out⟩
 |wrong e q3=>
  rw[hr]at D;have G:=hid (show U=.wrong e q3 by rw[<-E.out,B2y,hr]);clear hr E;go_wp2;go_quiet (fail)
  go_wp2_with fail
  refine Calls.mono (D.out _) ?_;rintro x M ⟨rfl,m⟩;unfold E7d;have F:=hid m;have y:=m.oi;have L:=A0a m.blk (show(A0e l (l.length-(q3:LU8).length) inn d (.slice a its.length cap) e false false)[4]? =some (.slice a its.length cap)from rfl);have I:=A0b (j:=4) m.blk;clear m S T
  go_wp2_with (first
   |(at_builtin;refine A0g _ rfl _ _ 22 rfl 29 R (.agg #[.int .i64 0,.int .i64 0,.int .u64 0,.string ⟨#[]⟩]) 4 40 Tryz.underlying22 N z A C rfl (by decide) _ _ _ rfl (y.alloc _) ⟨M.heap.size,0,none⟩ 1 1 (A1f ⟨4,0,0,[]⟩) rfl rfl ?c1 ?c2 ?c3 ?c4 ?_)
   |fail)
  case c1=>exact A3p _ _ _ _ _ _
  case c2=>intro u v;simp[A1f]at v;rcases v with rfl|rfl|rfl|rfl<;>rfl
  case c3=>unfold maxLen;omega
  case c4=>omega
  intro v' w1 b g i;obtain⟨W,Y,r,rfl⟩:=A0h b;obtain⟨k,t⟩:=F.growI ⟨4,0,0,[]⟩ b g i;have q4:=A0a k (show(A0e l (l.length-(q3:LU8).length) inn d (.slice a its.length cap) e false false)[4]? =some (.slice a its.length cap)from rfl);have Z:=A0b (j:=4) k;have H:=hid t;clear b g i k t y L I;go_wp2;go_ret;rw[G.out];exact⟨rfl,_,_,H.out⟩
 |ended=>
  rw[hr]at D;have G:=hid (show U=.ended false by rw[<-E.out,B2y,hr]);clear hr E;go_wp2;go_quiet (fail)
  go_wp2_with fail
  refine Calls.mono (D.out _) ?_;rintro x M ⟨rfl,m⟩;unfold E7d;have F:=hid m;have y:=m.oi;have L:=A0a m.blk (show(A0e l (l.length-([]:LU8).length) inn d (.slice a its.length cap) 0 true false)[4]? =some (.slice a its.length cap)from rfl);have I:=A0b (j:=4) m.blk;clear m S T
  go_wp2_with (first
   |(at_builtin;refine A0g _ rfl _ _ 22 rfl 29 R (.agg #[.int .i64 0,.int .i64 0,.int .u64 0,.string ⟨#[]⟩]) 4 40 Tryz.underlying22 N z A C rfl (by decide) _ _ _ rfl (y.alloc _) ⟨M.heap.size,0,none⟩ 1 1 (A1f ⟨4,0,0,[]⟩) rfl rfl ?c1 ?c2 ?c3 ?c4 ?_)
   |fail)
  case c1=>exact A3p _ _ _ _ _ _
  case c2=>intro u v;simp[A1f]at v;rcases v with rfl|rfl|rfl|rfl<;>rfl
  case c3=>unfold maxLen;omega
  case c4=>omega
  intro v' w1 b g i;obtain⟨W,Y,r,rfl⟩:=A0h b;obtain⟨k,t⟩:=F.growI ⟨4,0,0,[]⟩ b g i;have q4:=A0a k (show(A0e l (l.length-([]:LU8).length) inn d (.slice a its.length cap) 0 true false)[4]? =some (.slice a its.length cap)from rfl);have Z:=A0b (j:=4) k;have H:=hid t;clear b g i k t y L I;go_wp2;go_ret;rw[G.out];exact⟨rfl,_,_,H.out⟩
theorem E0j (B:Nat) (w0 w:World) (l p q:LU8) (c:UInt8) (f inn d:Nat) (vi:Value) (its:List It) (hl:l.length<=1800000) (a2:its.length<=10000000) (_hd:d<=1000) (h:SC B w0 w l p inn d vi its 0 false false) (O:A0s p=c::q) (y:c≠34) (z:c≠91) (t:c≠123):
 Calls Tryz.prog 52 #[.pointer (some ⟨B,0,none⟩)] w (B1i B w0 l inn d its (rGo d (f+1) inn .val p)):=by
 obtain⟨a,n,cap,rfl⟩:=A0h h.oi;obtain rfl:=A1a h.oi;have Q:=hid (A2n B w0 w l p inn d _ its 0 false false (by omega) h);rw[O]at Q;have N:=A0c l;have a0:c.toNat<256:=c.toNat_lt;obtain⟨U,H⟩:∃U,rGo d (f+1) inn .val p=U:=⟨_,rfl⟩;rw[H];rw[A5k O]at H;clear h O;rw[if_neg y,if_neg z,if_neg t]at H;have a5:((c.toNat:Int)==34)=false:=bqF (by have:=A0k y;simp at this;omega);have a6:((c.toNat:Int)==91)=false:=bqF (by have:=A0k z;simp at this;omega);have W:((c.toNat:Int)==123)=false:=bqF (by have:=A0k t;simp at this;omega);clear y z t;have I:=hid H;clear H;go_enter Tryz.func52,Tryz.ntmps52
 go_wp2_with fail
 refine Calls.mono Q.out ?_;rintro x A ⟨rfl,G⟩;have m:SC B w0 A l (c::q) inn d (.slice a its.length cap) its 0 false false:=G;clear G;obtain⟨M,R⟩:=A3i m.suf;have k0:=A0a m.blk (show(A0e l (l.length-(c::q).length) inn d (.slice a its.length cap) 0 false false)[0]? =some (.string (ofL l))from rfl);have k1:=A0a m.blk (show(A0e l (l.length-(c::q).length) inn d (.slice a its.length cap) 0 false false)[1]? =some (.int .i64 ((l.length-(c::q).length:Nat):Int))from rfl);have a1:(ofL l)[l.length-(c::q).length]'(by rw[N];exact M)=c:=(A1d l _ _).trans R;have Y:=hid m;have K:=hid (λn=>E0f B w0 (A.drewN n) l (c::q) inn d (.slice a its.length cap) its (by omega) (by omega) (m.drewN n));have D:=hid (λn=>C7c B w0 (A.drewN n) l (c::q) [110,117,108,108] 0 inn d (.slice a its.length cap) its (by omega) (by decide) (by omega) (m.drewN n));have E:=hid (λn=>C7c B w0 (A.drewN n) l (c::q) [102,97,108,115,101] 1 inn d (.slice a its.length cap) its (by omega) (by decide) (by omega) (m.drewN n));have F:=hid (λn=>C7c B w0 (A.drewN n) l (c::q) [116,114,117,101] 2 inn d (.slice a its.length cap) its (by omega) (by decide) (by omega) (m.drewN n));have L:=hid (λn=>A2m B w0 (A.drewN n) l (c::q) inn d (.slice a its.length cap) its 0 3 false false (m.drewN n))
 have C:=hid (λ(x:Ending) (w':World) (k:B1i B w0 l inn d its U x w')=>(show∃b,x=.returned (.bool b) by
  cases U with
  |ok n new q=>exact⟨_,k.1⟩
  |wrong e q=>exact⟨_,k.1⟩
  |ended la=>exact⟨_,k.1⟩))
 generalize l.length-(c::q).length=ps at*;clear R m;by_cases j:c=45\/isD c=true
 ·have g:=I.out
  rw[if_pos j]at g;rw[g]at K;clear g I;by_cases s:c=45
  ·subst s
   go_wp2;go_quiet (fail)
   go_wp2_with fail
   refine Calls.mono (K.out _) ?_;intro x u k;obtain⟨b,rfl⟩:=C.out x u k;have v:=hid k;clear k;go_wp2;go_ret;exact v.out
  ·have hD:48<=c.toNat/\c.toNat<=57:=(A6h c).1 (j.resolve_left s)
   have P:((c.toNat:Int)==45)=false:=bqF (by have:=A0k s;simp at this;omega);obtain⟨b1,b2⟩:=hD;have b3:(48:Int)<=(c.toNat:Int):=by omega
   have b4:(c.toNat:Int)<=57:=by omega
   clear j s;go_wp2;go_quiet (fail)
   go_wp2_with fail
   refine Calls.mono (K.out _) ?_;intro x u k;obtain⟨b,rfl⟩:=C.out x u k;have v:=hid k;clear k;go_wp2;go_ret;exact v.out
 ·have s:c≠45:=λe=>j (.inl e)
  have P:((c.toNat:Int)==45)=false:=bqF (by have:=A0k s;simp at this;omega);have a3:¬(48<=c.toNat/\c.toNat<=57):=λe=>j (.inr ((A6h c).2 e))
  have g:=I.out;rw[if_neg j]at g;have g:=hid g;clear I j s
  have a4:(decide ((48:Int)<=(c.toNat:Int))&&decide ((c.toNat:Int)<=57))=false:=by
   rw[Bool.and_eq_false_iff,decide_eq_false_iff_not,decide_eq_false_iff_not];omega
  by_cases i:c=110
  ·have g:=g.out
   rw[if_pos i]at g;rw[g]at D;subst i;clear g;go_wp2;go_quiet (fail)
   go_wp2_with fail
   refine Calls.mono (D.out _) ?_;intro x u k;obtain⟨b,rfl⟩:=C.out x u k;have v:=hid k;clear k;go_wp2;go_ret;exact v.out
  have T:((c.toNat:Int)==110)=false:=bqF (by have:=A0k i;simp at this;omega);by_cases o:c=102
  ·have g:=g.out
   rw[if_neg i,if_pos o]at g;rw[g]at E;subst o;clear g;go_wp2;go_quiet (fail)
   go_wp2_with fail
   refine Calls.mono (E.out _) ?_;intro x u k;obtain⟨b,rfl⟩:=C.out x u k;have v:=hid k;clear k;go_wp2;go_ret;exact v.out
  have S:((c.toNat:Int)==102)=false:=bqF (by have:=A0k o;simp at this;omega);by_cases r:c=116
  ·have g:=g.out
   rw[if_neg i,if_neg o,if_pos r]at g;rw[g]at F;subst r;clear g;go_wp2;go_quiet (fail)
   go_wp2_with fail
   refine Calls.mono (F.out _) ?_;intro x u k;obtain⟨b,rfl⟩:=C.out x u k;have v:=hid k;clear k;go_wp2;go_ret;exact v.out
  have V:((c.toNat:Int)==116)=false:=bqF (by have:=A0k r;simp at this;omega);have J:=hid (show U=.wrong 3 (c::q) by have:=g.out;rw[if_neg i,if_neg o,if_neg r]at this;exact this.symm);clear g i o r;by_cases Z:c.toNat<48
  all_goals
   go_wp2;go_quiet (fail)
   go_wp2_with fail
   refine Calls.mono (L.out _) ?_;rintro x u ⟨rfl,G⟩;have X:=hid G;clear G;go_wp2;go_ret;rw[J.out];exact⟨rfl,_,[],by rw[List.append_nil];exact X.out⟩
end Go.Proofs.YtmkkibaacclhnaaGreatDoor
