/-
  Part Sp.
-/
import Derived.Test.YtmkkibaacclhnaaGreatDoorSn
namespace Go.Proofs.YtmkkibaacclhnaaGreatDoor
open Go.RowKit
set_option maxRecDepth 100000
set_option maxHeartbeats 40000000
theorem C4d {B:Nat} {w0 j:World} {l:LU8} {inn d:Nat} {its:List It} {z:It} {U:RV} {x:Ending} (k:Nat) (h:D3p B w0 l (inn+1) d (its++[z]) U x j):
 ∃(m:Nat) (b:Bool) (q:LU8) (c:Value) (a:List It) (e:Nat) (en o:Bool),x=.returned (.tuple #[.int .i64 (m:Int),.bool b])/\SC B w0 j l q (inn+1) d c (its++z::a) e en o/\
  ∀w' vi',SC B w0 w' l q inn d vi' (its++⟨k,m,0,[]⟩::a) e en o->B1i B w0 l inn d its (B7r k U) (.returned (.bool b)) w':=by
 have i:∀new:List It,its++[z]++new=its++z::new:=λnew=>by simp
 cases U with
 |ok n new q=>
  obtain⟨g,c,f⟩:=h;exact⟨n,true,q,c,new,0,false,false,g,by rw[<-i];exact f,λw' vi' h3=>⟨rfl,vi',h3⟩⟩
 |wrong e q=>
  obtain⟨m,g,c,a,f⟩:=h;exact⟨m,false,q,c,a,e,false,false,g,by rw[<-i];exact f,λw' vi' h3=>⟨rfl,vi',_,h3⟩⟩
 |ended late=>
  obtain⟨m,g,c,a,f⟩:=h;exact⟨m,false,[],c,a,0,true,late,g,by rw[<-i];exact f,λw' vi' h3=>⟨rfl,vi',_,h3⟩⟩
theorem B5m (w:World) (a:Addr) (v:Value):(w.setCell a v).heap.size=w.heap.size:=by
 unfold World.setCell;simp
theorem E7y (W:World) (n:Nat) (a b c d:Value) (t:TypeId) (e:W.heap.size=n):∀(j:Nat) (u:Value),[a,b,c,d][j]? =some u->(W.alloc (.cells #[a,b,c,d] t)).cell? ((⟨n,0,none⟩:Addr).add j)=some u:=by
 subst e;exact A3p W a b c d t
theorem D0s {w:World} {e n g cap:Nat} {xs:List Value} {i:Nat} (h:w.ownsRow 0 e 4 (.slice (some ⟨g,0,none⟩) n cap) n xs) (m:i<n):w.there g (i*4) 4:=by
 rcases h.2 with⟨k,_⟩|⟨p,c,a,f,l,d,t,q,r,o⟩
 ·cases k
 ·simp at f
  obtain⟨rfl,rfl⟩:=f;intro j s;have b:i*4+j<a.size:=by omega
  refine⟨?_,A0b d⟩;rw[A0a d (Array.getElem?_eq_getElem b)];rfl
theorem C2g (B:Nat) (w0 w:World) (l p q:LU8) (c:UInt8) (f inn d:Nat) (A:Value) (its:List It) (I:l.length<=1800000) (_hil:its.length<=10000000) (_hd:d<=1000) (h:SC B w0 w l p inn d A its 0 false false) (o:A0s p=c::q) (j:c=91) (e:inn=d):
 Calls Tryz.prog 52 #[.pointer (some ⟨B,0,none⟩)] w (B1i B w0 l inn d its (rGo d (f+1) inn .val p)):=by
 obtain⟨a,n,cap,rfl⟩:=A0h h.oi;obtain rfl:=A1a h.oi;have u:=hid (A2n B w0 w l p inn d _ its 0 false false (by omega) h);rw[o]at u;have r:=A0c l;have D:c.toNat<256:=c.toNat_lt;obtain⟨U,g⟩:∃U,rGo d (f+1) inn .val p=U:=⟨_,rfl⟩;rw[g];rw[A5k o]at g;clear h o;rw[if_neg (by rw[j];decide),if_pos j,if_pos e]at g;subst j;have v:=hid g;have C:((inn:Int)==(d:Int))=true:=by rw[e];simp
 clear g e;go_enter Tryz.func52,Tryz.ntmps52
 go_wp2_with fail
 refine Calls.mono u.out ?_;rintro x t ⟨rfl,i⟩;have b:SC B w0 t l (91::q) inn d (.slice a its.length cap) its 0 false false:=i;clear i;obtain⟨m,s⟩:=A3i b.suf;have J:=A0a b.blk (show(A0e l (l.length-(91::q).length) inn d (.slice a its.length cap) 0 false false)[0]? =some (.string (ofL l))from rfl);have F:=A0a b.blk (show(A0e l (l.length-(91::q).length) inn d (.slice a its.length cap) 0 false false)[1]? =some (.int .i64 ((l.length-(91::q).length:Nat):Int))from rfl);have z:(ofL l)[l.length-(91::q).length]'(by rw[r];exact m)=91:=(A1d l _ _).trans s;have y:=hid b;have H:=A0a b.blk (show(A0e l (l.length-(91::q).length) inn d (.slice a its.length cap) 0 false false)[2]? =some (.int .i64 (inn:Int))from rfl);have K:=A0a b.blk (show(A0e l (l.length-(91::q).length) inn d (.slice a its.length cap) 0 false false)[3]? =some (.int .i64 (d:Int))from rfl);have k:=hid (λn=>A2m B w0 (t.drewN n) l (91::q) inn d (.slice a its.length cap) its 0 4 false false (b.drewN n));generalize l.length-(91::q).length=ps at*;clear s b;go_wp2;go_quiet (fail);go_wp2;go_quiet (fail)
 go_wp2_with fail
 refine Calls.mono (k.out _) ?_;rintro x G ⟨rfl,i⟩;have E:=hid i;clear i;go_wp2;go_ret;rw[<-v.out];exact⟨rfl,_,[],by rw[List.append_nil];exact E.out⟩
theorem C2h (B:Nat) (w0 w:World) (l p q:LU8) (c:UInt8) (f inn d:Nat) (vi:Value) (its:List It) (hl:l.length<=1800000) (a2:its.length<=10000000) (_hd:d<=1000) (h:SC B w0 w l p inn d vi its 0 false false) (O:A0s p=c::q) (M:c=91) (H:inn≠d) (a0:inn<=1000)
 (hV:∀(w':World) (W:Value),SC B w0 w' l q (inn+1) d W (its++[⟨0,0,0,[]⟩]) 0 false false->Calls Tryz.prog 90 #[.pointer (some ⟨B,0,none⟩)] w' (D3p B w0 l (inn+1) d (its++[⟨0,0,0,[]⟩]) (rGo d f (inn+1) .vals q))):
 Calls Tryz.prog 52 #[.pointer (some ⟨B,0,none⟩)] w (B1i B w0 l inn d its (rGo d (f+1) inn .val p)):=by
 obtain⟨a,n,cap,rfl⟩:=A0h h.oi;obtain rfl:=A1a h.oi;have HB:=hid (A2n B w0 w l p inn d _ its 0 false false (by omega) h);rw[O]at HB;have S:=A0c l;have a9:c.toNat<256:=c.toNat_lt;obtain⟨U,G⟩:∃U,rGo d (f+1) inn .val p=U:=⟨_,rfl⟩;rw[G];rw[A5k O]at G;clear h O;rw[if_neg (by rw[M];decide),if_pos M,if_neg H]at G;subst M;have HU:=hid G;have HV:=hid hV;have a6:((inn:Int)==(d:Int))=false:=bqF (by omega);obtain⟨i0,hi,Q,R,T⟩:=info_parts Tryz.info29;clear G H hV;go_enter Tryz.func52,Tryz.ntmps52
 go_wp2_with fail
 refine Calls.mono HB.out ?_;rintro x V ⟨rfl,A⟩;have i:SC B w0 V l (91::q) inn d (.slice a its.length cap) its 0 false false:=A;clear A;obtain⟨X,K⟩:=A3i i.suf;have k0:=A0a i.blk (show(A0e l (l.length-(91::q).length) inn d (.slice a its.length cap) 0 false false)[0]? =some (.string (ofL l))from rfl);have k1:=A0a i.blk (show(A0e l (l.length-(91::q).length) inn d (.slice a its.length cap) 0 false false)[1]? =some (.int .i64 ((l.length-(91::q).length:Nat):Int))from rfl);have a4:(ofL l)[l.length-(91::q).length]'(by rw[S];exact X)=91:=(A1d l _ _).trans K;have a1:=hid i;have k2:=A0a i.blk (show(A0e l (l.length-(91::q).length) inn d (.slice a its.length cap) 0 false false)[2]? =some (.int .i64 (inn:Int))from rfl);have k3:=A0a i.blk (show(A0e l (l.length-(91::q).length) inn d (.slice a its.length cap) 0 false false)[3]? =some (.int .i64 (d:Int))from rfl);have P:=A0a i.blk (show(A0e l (l.length-(91::q).length) inn d (.slice a its.length cap) 0 false false)[4]? =some (.slice a its.length cap)from rfl);have f1:=A0b (j:=1) i.blk;have f2:=A0b (j:=2) i.blk;have f4:=A0b (j:=4) i.blk;have I:=hid (λn=>(i.drewN n).step.cell 2 (.int .i64 ((inn:Int)+1)) (p':=q) (inn':=inn+1) (e':=0) (en':=false) (la':=false) (C5x i.suf) rfl);have HZ:=hid (λn=>(show(((V.drewN n).setCell ⟨B,1,none⟩ (.int .i64 ((l.length-(91::q).length:Nat)+1:Int))).setCell ⟨B,2,none⟩ (.int .i64 ((inn:Int)+1))).heap.size=V.heap.size by rw[B5m,B5m];rfl));generalize l.length-(91::q).length=ps at*;clear K i;go_wp2;go_quiet (fail);go_wp2;go_quiet (fail)
 go_wp2_with (first
  |(at_builtin;refine A0g _ rfl _ _ 22 rfl 29 i0 (.agg #[.int .i64 0,.int .i64 0,.int .u64 0,.string ⟨#[]⟩]) 4 40 Tryz.underlying22 hi Q R T rfl (by decide) _ _ _ rfl ((I.out _).oi.alloc _) ⟨_,0,none⟩ 1 1 (A1f ⟨0,0,0,[]⟩) rfl rfl ?c1 ?c2 ?c3 ?c4 ?_)
  |fail)
 case c1=>exact E7y _ _ _ _ _ _ _ (HZ.out _)
 case c2=>intro u hu;simp[A1f]at hu;rcases hu with rfl|rfl|rfl|rfl<;>rfl
 case c3=>unfold maxLen;omega
 case c4=>omega
 intro v' w1 r z D;obtain⟨a',n',Y,rfl⟩:=A0h r;obtain⟨E,hR⟩:=(I.out _).growI ⟨0,0,0,[]⟩ r z (λg K=>by rw[HZ.out];exact D g K);have q4:=A0a E (show(A0e l (l.length-q.length) (inn+1) d (.slice a its.length cap) 0 false false)[4]? =some (.slice a its.length cap)from rfl);have p4:=A0b (j:=4) E;have HQ:=hid (HV.out _ _ hR);clear r z D E hR k0 k1 k2 k3 P f1 f2 f4
 go_wp2_with fail
 refine Calls.mono HQ.out ?_;intro x w3 hp;obtain⟨m,b,J,a8,k,e,en,L,rfl,A,Z⟩:=C4d 5 hp;have o:(its++(⟨0,0,0,[]⟩:It)::k).length=its.length+k.length+1:=by simp;omega
 obtain⟨a3,n3,s,rfl⟩:=A0h A.oi;obtain rfl:=A1a A.oi;obtain⟨g,rfl⟩:=A5s A.oi (by rw[o];omega);have N:w3.there g (its.length*4) 4:=D0s A.oi (by rw[o];omega);have t:SC B w0 (w3.setCells g (its.length*4) [.int .i64 5,.int .i64 (m:Int),.int .u64 0,.string (ofL [])]) l J (inn+1) d (.slice (some ⟨g,0,none⟩) (its++(⟨0,0,0,[]⟩:It)::k).length s) (its++(⟨5,m,0,[]⟩:It)::k) e en L:=A.setItem (y:=⟨5,m,0,[]⟩) (its.length*4) rfl;have j2:=A0a t.blk (show(A0e l (l.length-J.length) (inn+1) d (.slice (some ⟨g,0,none⟩) (its++(⟨0,0,0,[]⟩:It)::k).length s) e en L)[2]? =some (.int .i64 ((inn:Int)+1))from rfl);have a5:=A0b (j:=2) t.blk;have C:=hid (Z _ _ (t.cell 2 (.int .i64 (inn:Int)) (p':=J) (inn':=inn) (e':=e) (en':=en) (la':=L) t.suf rfl));rw[HU.out]at C;have P:=A0a A.blk (show(A0e l (l.length-J.length) (inn+1) d (.slice (some ⟨g,0,none⟩) (its++(⟨0,0,0,[]⟩:It)::k).length s) e en L)[4]? =some (.slice (some ⟨g,0,none⟩) (its++(⟨0,0,0,[]⟩:It)::k).length s)from rfl);rw[o]at P;have a7:its.length<its.length+k.length+1:=by omega
 have F:(Tryz.prog.info? 29).map (·.size)=some 4:=by kernel_rfl
 clear A Z o hp t
 go_wp2_with (first|(refine wpList_store_mid rfl 29 _ _ rfl g (its.length*4) #[.int .i64 (5:Nat),.int .i64 (m:Int),.int .u64 (0:Nat),.string (ofL [])] ?s1 ?s2 ?t1 ?t2 ?t3 ?_)|fail)
 case s1=>rfl
 case s2=>rfl
 case t1=>exact N
 case t2=>exact F
 case t3=>exact Array.all_eq_true_iff_forall_mem.2 (λv hv=>by simp at hv;rcases hv with rfl|rfl|rfl|rfl<;>rfl)
 go_ret;exact C.out
theorem C2i (B:Nat) (w0 w:World) (l p q:LU8) (c:UInt8) (f inn d:Nat) (A:Value) (its:List It) (I:l.length<=1800000) (_hil:its.length<=10000000) (_hd:d<=1000) (h:SC B w0 w l p inn d A its 0 false false) (o:A0s p=c::q) (j:c=123) (e:inn=d):
 Calls Tryz.prog 52 #[.pointer (some ⟨B,0,none⟩)] w (B1i B w0 l inn d its (rGo d (f+1) inn .val p)):=by
 obtain⟨a,n,cap,rfl⟩:=A0h h.oi;obtain rfl:=A1a h.oi;have u:=hid (A2n B w0 w l p inn d _ its 0 false false (by omega) h);rw[o]at u;have r:=A0c l;have D:c.toNat<256:=c.toNat_lt;obtain⟨U,g⟩:∃U,rGo d (f+1) inn .val p=U:=⟨_,rfl⟩;rw[g];rw[A5k o]at g;clear h o;rw[if_neg (by rw[j];decide),if_neg (by rw[j];decide),if_pos j,if_pos e]at g;subst j;have v:=hid g;have C:((inn:Int)==(d:Int))=true:=by rw[e];simp
 clear g e;go_enter Tryz.func52,Tryz.ntmps52
 go_wp2_with fail
 refine Calls.mono u.out ?_;rintro x t ⟨rfl,i⟩;have b:SC B w0 t l (123::q) inn d (.slice a its.length cap) its 0 false false:=i;clear i;obtain⟨m,s⟩:=A3i b.suf;have J:=A0a b.blk (show(A0e l (l.length-(123::q).length) inn d (.slice a its.length cap) 0 false false)[0]? =some (.string (ofL l))from rfl);have F:=A0a b.blk (show(A0e l (l.length-(123::q).length) inn d (.slice a its.length cap) 0 false false)[1]? =some (.int .i64 ((l.length-(123::q).length:Nat):Int))from rfl);have z:(ofL l)[l.length-(123::q).length]'(by rw[r];exact m)=123:=(A1d l _ _).trans s;have y:=hid b;have H:=A0a b.blk (show(A0e l (l.length-(123::q).length) inn d (.slice a its.length cap) 0 false false)[2]? =some (.int .i64 (inn:Int))from rfl);have K:=A0a b.blk (show(A0e l (l.length-(123::q).length) inn d (.slice a its.length cap) 0 false false)[3]? =some (.int .i64 (d:Int))from rfl);have k:=hid (λn=>A2m B w0 (t.drewN n) l (123::q) inn d (.slice a its.length cap) its 0 4 false false (b.drewN n));generalize l.length-(123::q).length=ps at*;clear s b;go_wp2;go_quiet (fail);go_wp2;go_quiet (fail)
 go_wp2_with fail
 refine Calls.mono (k.out _) ?_;rintro x G ⟨rfl,i⟩;have E:=hid i;clear i;go_wp2;go_ret;rw[<-v.out];exact⟨rfl,_,[],by rw[List.append_nil];exact E.out⟩
theorem C2j (B:Nat) (w0 w:World) (l p q:LU8) (c:UInt8) (f inn d:Nat) (vi:Value) (its:List It) (hl:l.length<=1800000) (a2:its.length<=10000000) (_hd:d<=1000) (h:SC B w0 w l p inn d vi its 0 false false) (O:A0s p=c::q) (J:c=123) (H:inn≠d) (a0:inn<=1000)
 (hV:∀(w':World) (W:Value),SC B w0 w' l q (inn+1) d W (its++[⟨0,0,0,[]⟩]) 0 false false->Calls Tryz.prog 89 #[.pointer (some ⟨B,0,none⟩)] w' (D3p B w0 l (inn+1) d (its++[⟨0,0,0,[]⟩]) (rGo d f (inn+1) .pairs q))):
 Calls Tryz.prog 52 #[.pointer (some ⟨B,0,none⟩)] w (B1i B w0 l inn d its (rGo d (f+1) inn .val p)):=by
 obtain⟨a,n,cap,rfl⟩:=A0h h.oi;obtain rfl:=A1a h.oi;have HB:=hid (A2n B w0 w l p inn d _ its 0 false false (by omega) h);rw[O]at HB;have S:=A0c l;have a9:c.toNat<256:=c.toNat_lt;obtain⟨U,G⟩:∃U,rGo d (f+1) inn .val p=U:=⟨_,rfl⟩;rw[G];rw[A5k O]at G;clear h O;rw[if_neg (by rw[J];decide),if_neg (by rw[J];decide),if_pos J,if_neg H]at G;subst J;have HU:=hid G;have HV:=hid hV;have a6:((inn:Int)==(d:Int))=false:=bqF (by omega);obtain⟨i0,hi,Q,R,T⟩:=info_parts Tryz.info29;clear G H hV;go_enter Tryz.func52,Tryz.ntmps52
 go_wp2_with fail
 refine Calls.mono HB.out ?_;rintro x V ⟨rfl,A⟩;have i:SC B w0 V l (123::q) inn d (.slice a its.length cap) its 0 false false:=A;clear A;obtain⟨X,L⟩:=A3i i.suf;have k0:=A0a i.blk (show(A0e l (l.length-(123::q).length) inn d (.slice a its.length cap) 0 false false)[0]? =some (.string (ofL l))from rfl);have k1:=A0a i.blk (show(A0e l (l.length-(123::q).length) inn d (.slice a its.length cap) 0 false false)[1]? =some (.int .i64 ((l.length-(123::q).length:Nat):Int))from rfl);have a4:(ofL l)[l.length-(123::q).length]'(by rw[S];exact X)=123:=(A1d l _ _).trans L;have a1:=hid i;have k2:=A0a i.blk (show(A0e l (l.length-(123::q).length) inn d (.slice a its.length cap) 0 false false)[2]? =some (.int .i64 (inn:Int))from rfl);have k3:=A0a i.blk (show(A0e l (l.length-(123::q).length) inn d (.slice a its.length cap) 0 false false)[3]? =some (.int .i64 (d:Int))from rfl);have P:=A0a i.blk (show(A0e l (l.length-(123::q).length) inn d (.slice a its.length cap) 0 false false)[4]? =some (.slice a its.length cap)from rfl);have f1:=A0b (j:=1) i.blk;have f2:=A0b (j:=2) i.blk;have f4:=A0b (j:=4) i.blk;have I:=hid (λn=>(i.drewN n).step.cell 2 (.int .i64 ((inn:Int)+1)) (p':=q) (inn':=inn+1) (e':=0) (en':=false) (la':=false) (C5x i.suf) rfl);have HZ:=hid (λn=>(show(((V.drewN n).setCell ⟨B,1,none⟩ (.int .i64 ((l.length-(123::q).length:Nat)+1:Int))).setCell ⟨B,2,none⟩ (.int .i64 ((inn:Int)+1))).heap.size=V.heap.size by rw[B5m,B5m];rfl));generalize l.length-(123::q).length=ps at*;clear L i;go_wp2;go_quiet (fail);go_wp2;go_quiet (fail)
 go_wp2_with (first
  |(at_builtin;refine A0g _ rfl _ _ 22 rfl 29 i0 (.agg #[.int .i64 0,.int .i64 0,.int .u64 0,.string ⟨#[]⟩]) 4 40 Tryz.underlying22 hi Q R T rfl (by decide) _ _ _ rfl ((I.out _).oi.alloc _) ⟨_,0,none⟩ 1 1 (A1f ⟨0,0,0,[]⟩) rfl rfl ?c1 ?c2 ?c3 ?c4 ?_)
  |fail)
 case c1=>exact E7y _ _ _ _ _ _ _ (HZ.out _)
 case c2=>intro u hu;simp[A1f]at hu;rcases hu with rfl|rfl|rfl|rfl<;>rfl
 case c3=>unfold maxLen;omega
 case c4=>omega
 intro v' w1 r z D;obtain⟨a',n',Y,rfl⟩:=A0h r;obtain⟨E,hR⟩:=(I.out _).growI ⟨0,0,0,[]⟩ r z (λg L=>by rw[HZ.out];exact D g L);have q4:=A0a E (show(A0e l (l.length-q.length) (inn+1) d (.slice a its.length cap) 0 false false)[4]? =some (.slice a its.length cap)from rfl);have p4:=A0b (j:=4) E;have HQ:=hid (HV.out _ _ hR);clear r z D E hR k0 k1 k2 k3 P f1 f2 f4
 go_wp2_with fail
 refine Calls.mono HQ.out ?_;intro x w3 hp;obtain⟨m,b,K,a8,k,e,en,M,rfl,A,Z⟩:=C4d 6 hp;have o:(its++(⟨0,0,0,[]⟩:It)::k).length=its.length+k.length+1:=by simp;omega
 obtain⟨a3,n3,s,rfl⟩:=A0h A.oi;obtain rfl:=A1a A.oi;obtain⟨g,rfl⟩:=A5s A.oi (by rw[o];omega);have N:w3.there g (its.length*4) 4:=D0s A.oi (by rw[o];omega);have t:SC B w0 (w3.setCells g (its.length*4) [.int .i64 6,.int .i64 (m:Int),.int .u64 0,.string (ofL [])]) l K (inn+1) d (.slice (some ⟨g,0,none⟩) (its++(⟨0,0,0,[]⟩:It)::k).length s) (its++(⟨6,m,0,[]⟩:It)::k) e en M:=A.setItem (y:=⟨6,m,0,[]⟩) (its.length*4) rfl;have j2:=A0a t.blk (show(A0e l (l.length-K.length) (inn+1) d (.slice (some ⟨g,0,none⟩) (its++(⟨0,0,0,[]⟩:It)::k).length s) e en M)[2]? =some (.int .i64 ((inn:Int)+1))from rfl);have a5:=A0b (j:=2) t.blk;have C:=hid (Z _ _ (t.cell 2 (.int .i64 (inn:Int)) (p':=K) (inn':=inn) (e':=e) (en':=en) (la':=M) t.suf rfl));rw[HU.out]at C;have P:=A0a A.blk (show(A0e l (l.length-K.length) (inn+1) d (.slice (some ⟨g,0,none⟩) (its++(⟨0,0,0,[]⟩:It)::k).length s) e en M)[4]? =some (.slice (some ⟨g,0,none⟩) (its++(⟨0,0,0,[]⟩:It)::k).length s)from rfl);rw[o]at P;have a7:its.length<its.length+k.length+1:=by omega
 have F:(Tryz.prog.info? 29).map (·.size)=some 4:=by kernel_rfl
 clear A Z o hp t
 go_wp2_with (first|(refine wpList_store_mid rfl 29 _ _ rfl g (its.length*4) #[.int .i64 (6:Nat),.int .i64 (m:Int),.int .u64 (0:Nat),.string (ofL [])] ?s1 ?s2 ?t1 ?t2 ?t3 ?_)|fail)
 case s1=>rfl
 case s2=>rfl
 case t1=>exact N
 case t2=>exact F
 case t3=>exact Array.all_eq_true_iff_forall_mem.2 (λv hv=>by simp at hv;rcases hv with rfl|rfl|rfl|rfl<;>rfl)
 go_ret;exact C.out
theorem D0t {d f inn:Nat} {p:LU8} (h:A0s p=[]):rGo d (f+1) inn .vals p=.ended false:=by
 rw[rGo.eq_def];simp only;rw[h]
theorem C7e {d f inn:Nat} {p q:LU8} {c:UInt8} (h:A0s p=c::q):rGo d (f+1) inn .vals p=if c=93 then .ok 0 [] q else rGo d f inn (.valsGo 1 []) (c::q):=by
 rw[rGo.eq_def];simp only;rw[h]
theorem E0k {d f inn n:Nat} {a:List It} {p:LU8}:rGo d (f+1) inn (.valsGo n a) p=match rGo d f inn .val p with
 |.wrong e q=>.wrong e q
 |.ended l=>.ended l
 |.ok _ its p=>match B1c 93 p with
  |.ended=>.ended false
  |.wrong e q=>.wrong e q
  |.ok true q=>.ok n (a++its) q
  |.ok false q=>rGo d f inn (.valsGo (n+1) (a++its)) q:=by
 rw[rGo.eq_def];simp only;cases rGo d f inn .val p with
 |wrong e q=>rfl
 |ended l=>rfl
 |ok k its p=>
  simp only;unfold B1c;cases A0s p with
  |nil=>rfl
  |cons c q=>
   simp only;by_cases b:c=93
   ·rw[if_pos b,if_pos b]
   ·rw[if_neg b,if_neg b]
    by_cases g:c=44
    ·rw[if_pos g,if_pos g]
    ·rw[if_neg g,if_neg g]
theorem F4e (B:Nat) (w0 w:World) (l p:LU8) (f inn d:Nat) (O:Value) (its:List It) (hl:l.length<=1800000) (a5:its.length+p.length<=8000000) (hf:A5g .vals p<=f+1) (h:SC B w0 w l p inn d O its 0 false false)
 (h1:∀(t:Nat) (w':World) (D:Value) (its':List It) (p':LU8),t<=f->A5g .val p'<=t->its'.length+p'.length<=8000000->SC B w0 w' l p' inn d D its' 0 false false->Calls Tryz.prog 52 #[.pointer (some ⟨B,0,none⟩)] w' (B1i B w0 l inn d its' (rGo d t inn .val p'))):
 Calls Tryz.prog 90 #[.pointer (some ⟨B,0,none⟩)] w (D3p B w0 l inn d its (rGo d (f+1) inn .vals p)):=by
 have Q:=hid (A2n B w0 w l p inn d _ its 0 false false (by omega) h);have Z:=A0c l;have a4:=h.at_;have H1:=hid h1;have J:=(A0x p).length_le;cases K:A0s p with
 |nil=>
  rw[D0t K];rw[K]at Q;clear h K h1;go_enter Tryz.func90,Tryz.ntmps90
  go_wp2_with fail
  refine Calls.mono Q.out ?_;rintro x w2 ⟨rfl,a⟩;have y:=hid a;clear a;go_wp2;go_ret2;exact⟨0,rfl,_,[],by rw[List.append_nil];exact y.out⟩
 |cons c q=>
  rw[C7e K];rw[K]at Q J;have hq:q.length+1<=p.length:=J;have b0:c.toNat<256:=c.toNat_lt;obtain⟨U,T⟩:∃U,(if c=93 then RV.ok 0 [] q else rGo d f inn (.valsGo 1 []) (c::q))=U:=⟨_,rfl⟩;rw[T];have R:=hid T;have P:A5g (.valsGo 1 []) (c::q)<=f:=by unfold A5g at hf ⊢;simp only[List.length_cons]at hf ⊢;omega
  have a3:its.length+(c::q).length<=8000000:=by simp only[List.length_cons];omega
  clear h K h1 T J hf;go_enter Tryz.func90,Tryz.ntmps90
  go_wp2_with fail
  refine Calls.mono Q.out ?_;rintro x w2 ⟨rfl,a⟩;have s:SC B w0 w2 l (c::q) inn d O its 0 false false:=a;clear a;obtain⟨a0,hg⟩:=A3i s.suf;have k0:=A0a s.blk (show(A0e l (l.length-(c::q).length) inn d O 0 false false)[0]? =some (.string (ofL l))from rfl);have k1:=A0a s.blk (show(A0e l (l.length-(c::q).length) inn d O 0 false false)[1]? =some (.int .i64 ((l.length-(c::q).length:Nat):Int))from rfl);have f1:=A0b (j:=1) s.blk;have a6:(ofL l)[l.length-(c::q).length]'(by rw[Z];exact a0)=c:=(A1d l _ _).trans hg;have N:=hid (λn=>(s.drewN n).step);have M:=hid (λn=>s.drewN n);have a2:=s.at_;generalize l.length-(c::q).length=ps at*;clear hg s Q;by_cases L:c=93
  ·have G:=R.out
   rw[if_pos L]at G;have G:=hid G;subst L;clear R;go_wp2;go_quiet (fail);go_wp2;go_ret2;rw[<-G.out];exact⟨rfl,_,by rw[List.append_nil];exact N.out _⟩
  ·have o:((c.toNat:Int)==93)=false:=bqF (by have:=A0k L;simp at this;omega)
   have G:=R.out;rw[if_neg L]at G;have G:=hid G;have a7:(c::q).length<=1800000:=by omega
   clear R L;have Y:=hid P;clear P;go_wp2;go_quiet (fail);go_wp2
   go_loopw [5] (λn wr=>∃(k t:Nat) (i:List It) (p':LU8) (D:Value),n=.int .i64 (k:Int)/\k+p'.length<=(c::q).length+1/\Hid (SC B w0 wr l p' inn d D (its++i) 0 false false)/\Hid (rGo d t inn (.valsGo k i) p'=U/\A5g (.valsGo k i) p'<=t/\t<=f/\its.length+i.length+p'.length<=8000000)) (λ_ wr=>l.length-atOf wr B)
   case atStart=>exact⟨1,f,[],c::q,O,rfl,by omega,hid (by rw[List.append_nil];exact M.out _),hid ⟨G.out,Y.out,Nat.le_refl _,by simp;omega⟩⟩
   case round=>
    clear k0 k1 f1 N M;obtain⟨k,t,i,p',D,rfl,hk,X,I⟩:=hrel;cases t with
    |zero=>exact absurd I.2.1 (by unfold A5g;simp only;omega)
    |succ t=>
     have hA:=hid X.atOf;have b1:=X.at_;have F:A5g .val p'<=t:=by have:=I.2.1;unfold A5g at this ⊢;simp only at this ⊢;omega
     have z:=hid (H1.out t _ D (its++i) p' (by have:=I.2.2.1;omega) F (by rw[List.length_append];exact I.2.2.2) X.out);have r:=hid (E7w d t inn .val p');have A:=hid (B9w d t inn .val p');have V:=I.1;rw[E0k]at V;have H:=hid V;clear V F;cases hr:rGo d t inn .val p' with
     |wrong e q3=>
      rw[hr]at z H;clear hr r A
      go_wp2_with fail
      refine Calls.mono z.out ?_;rintro x w3 ⟨rfl,m,C,a⟩;have y:=hid a;clear a;go_wp2;go_ret2;rw[<-H.out];exact⟨0,rfl,m,i++C,by rw[<-List.append_assoc];exact y.out⟩
     |ended la=>
      rw[hr]at z H;clear hr r A
      go_wp2_with fail
      refine Calls.mono z.out ?_;rintro x w3 ⟨rfl,m,C,a⟩;have y:=hid a;clear a;go_wp2;go_ret2;rw[<-H.out];exact⟨0,rfl,m,i++C,by rw[<-List.append_assoc];exact y.out⟩
     |ok a1 new p3=>
      rw[hr]at z H r A;clear hr;have a9:new.length+p3.length<=0+p'.length:=r.out;have a8:p3.length<=p'.length:=List.IsSuffix.length_le A.out;clear r A
      go_wp2_with fail
      refine Calls.mono z.out ?_;rintro x w3 ⟨rfl,m,a⟩;have v:=hid (C1a B w0 w3 l p3 93 inn d m _ (by omega) a);have E:=(A0x p3).length_le;clear a;have g:=H.out
      have S:=hid (show∀b q,B1c 93 p3=.ok b q->q.length+1<=p3.length fromλb q o=>by
       unfold B1c at o;cases hy:A0s p3 with
       |nil=>rw[hy]at o;cases o
       |cons c q=>
        rw[hy]at o E;simp only at o;split at o
        ·cases o;exact E
        split at o
        ·cases o;exact E
        ·cases o)
      cases o:B1c 93 p3 with
      |wrong e q3=>
       rw[o]at v g;have u:=hid g;clear o g H S
       go_wp2_with fail
       refine Calls.mono v.out ?_;rintro x W ⟨rfl,a⟩;unfold F9w;have y:=hid a;clear a;go_wp2;go_ret2;rw[<-u.out];exact⟨k,rfl,m,i++new,by rw[<-List.append_assoc];exact y.out⟩
      |ended=>
       rw[o]at v g;have u:=hid g;clear o g H S
       go_wp2_with fail
       refine Calls.mono v.out ?_;rintro x W ⟨rfl,a⟩;unfold F9w;have y:=hid a;clear a;go_wp2;go_ret2;rw[<-u.out];exact⟨k,rfl,m,i++new,by rw[<-List.append_assoc];exact y.out⟩
      |ok b q3=>
       have b2:=S.out b q3 o;rw[o]at v g;clear o H S;cases b with
       |true=>
        have u:=hid g;clear g
        go_wp2_with fail
        refine Calls.mono v.out ?_;rintro x W ⟨rfl,a⟩;unfold E0b;have y:=hid a;clear a;go_wp2;go_ret2;rw[<-u.out];exact⟨rfl,m,by rw[<-List.append_assoc];exact y.out⟩
       |false=>
        have u:=hid g;clear g
        go_wp2_with fail
        refine Calls.mono v.out ?_;rintro x W ⟨rfl,a⟩;unfold E0b;have y:=hid a;clear a;go_wp2;exact⟨⟨k+1,t,i++new,q3,m,rfl,by omega,hid (by rw[<-List.append_assoc];exact y.out),hid ⟨u.out,by have:=I.2.1;unfold A5g at this ⊢;simp only at this ⊢;omega,by have:=I.2.2.1;omega,by have:=I.2.2.2;rw[List.length_append];omega⟩⟩,by rw[y.atOf,hA.out];have:=y.at_;omega⟩
theorem C7f {d f inn:Nat} {p:LU8} (h:A0s p=[]):rGo d (f+1) inn .pairs p=.ended false:=by
 rw[rGo.eq_def];simp only;rw[h]
theorem C2k {d f inn:Nat} {p q:LU8} {c:UInt8} (h:A0s p=c::q):rGo d (f+1) inn .pairs p=if c=125 then .ok 0 [] q else rGo d f inn (.pairsGo 1 []) (c::q):=by
 rw[rGo.eq_def];simp only;rw[h]
theorem D3r {d f inn n:Nat} {a:List It} {p:LU8}:rGo d (f+1) inn (.pairsGo n a) p=match rGo d f inn .pair p with
 |.wrong e q=>.wrong e q
 |.ended l=>.ended l
 |.ok _ its p=>match B1c 125 p with
  |.ended=>.ended false
  |.wrong e q=>.wrong e q
  |.ok true q=>.ok n (a++its) q
  |.ok false q=>rGo d f inn (.pairsGo (n+1) (a++its)) q:=by
 rw[rGo.eq_def];simp only;cases rGo d f inn .pair p with
 |wrong e q=>rfl
 |ended l=>rfl
 |ok k its p=>
  simp only;unfold B1c;cases A0s p with
  |nil=>rfl
  |cons c q=>
   simp only;by_cases b:c=125
   ·rw[if_pos b,if_pos b]
   ·rw[if_neg b,if_neg b]
    by_cases g:c=44
    ·rw[if_pos g,if_pos g]
    ·rw[if_neg g,if_neg g]
theorem E7z (B:Nat) (w0 w:World) (l p:LU8) (f inn d:Nat) (O:Value) (its:List It) (hl:l.length<=1800000) (a5:its.length+p.length<=8000000) (hf:A5g .pairs p<=f+1) (h:SC B w0 w l p inn d O its 0 false false)
 (h1:∀(t:Nat) (w':World) (D:Value) (its':List It) (p':LU8),t<=f->A5g .pair p'<=t->its'.length+p'.length<=8000000->SC B w0 w' l p' inn d D its' 0 false false->Calls Tryz.prog 143 #[.pointer (some ⟨B,0,none⟩)] w' (B1i B w0 l inn d its' (rGo d t inn .pair p'))):
 Calls Tryz.prog 89 #[.pointer (some ⟨B,0,none⟩)] w (D3p B w0 l inn d its (rGo d (f+1) inn .pairs p)):=by
 have Q:=hid (A2n B w0 w l p inn d _ its 0 false false (by omega) h);have Z:=A0c l;have a4:=h.at_;have H1:=hid h1;have J:=(A0x p).length_le;cases K:A0s p with
 |nil=>
  rw[C7f K];rw[K]at Q;clear h K h1;go_enter Tryz.func89,Tryz.ntmps89
  go_wp2_with fail
  refine Calls.mono Q.out ?_;rintro x w2 ⟨rfl,a⟩;have y:=hid a;clear a;go_wp2;go_ret2;exact⟨0,rfl,_,[],by rw[List.append_nil];exact y.out⟩
 |cons c q=>
  rw[C2k K];rw[K]at Q J;have hq:q.length+1<=p.length:=J;have b0:c.toNat<256:=c.toNat_lt;obtain⟨U,T⟩:∃U,(if c=125 then RV.ok 0 [] q else rGo d f inn (.pairsGo 1 []) (c::q))=U:=⟨_,rfl⟩;rw[T];have R:=hid T;have P:A5g (.pairsGo 1 []) (c::q)<=f:=by unfold A5g at hf ⊢;simp only[List.length_cons]at hf ⊢;omega
  have a3:its.length+(c::q).length<=8000000:=by simp only[List.length_cons];omega
  clear h K h1 T J hf;go_enter Tryz.func89,Tryz.ntmps89
  go_wp2_with fail
  refine Calls.mono Q.out ?_;rintro x w2 ⟨rfl,a⟩;have s:SC B w0 w2 l (c::q) inn d O its 0 false false:=a;clear a;obtain⟨a0,hg⟩:=A3i s.suf;have k0:=A0a s.blk (show(A0e l (l.length-(c::q).length) inn d O 0 false false)[0]? =some (.string (ofL l))from rfl);have k1:=A0a s.blk (show(A0e l (l.length-(c::q).length) inn d O 0 false false)[1]? =some (.int .i64 ((l.length-(c::q).length:Nat):Int))from rfl);have f1:=A0b (j:=1) s.blk;have a6:(ofL l)[l.length-(c::q).length]'(by rw[Z];exact a0)=c:=(A1d l _ _).trans hg;have N:=hid (λn=>(s.drewN n).step);have M:=hid (λn=>s.drewN n);have a2:=s.at_;generalize l.length-(c::q).length=ps at*;clear hg s Q;by_cases L:c=125
  ·have G:=R.out
   rw[if_pos L]at G;have G:=hid G;subst L;clear R;go_wp2;go_quiet (fail);go_wp2;go_ret2;rw[<-G.out];exact⟨rfl,_,by rw[List.append_nil];exact N.out _⟩
  ·have o:((c.toNat:Int)==125)=false:=bqF (by have:=A0k L;simp at this;omega)
   have G:=R.out;rw[if_neg L]at G;have G:=hid G;have a7:(c::q).length<=1800000:=by omega
   clear R L;have Y:=hid P;clear P;go_wp2;go_quiet (fail);go_wp2
   go_loopw [5] (λn wr=>∃(k t:Nat) (i:List It) (p':LU8) (D:Value),n=.int .i64 (k:Int)/\k+p'.length<=(c::q).length+1/\Hid (SC B w0 wr l p' inn d D (its++i) 0 false false)/\Hid (rGo d t inn (.pairsGo k i) p'=U/\A5g (.pairsGo k i) p'<=t/\t<=f/\its.length+i.length+p'.length<=8000000)) (λ_ wr=>l.length-atOf wr B)
   case atStart=>exact⟨1,f,[],c::q,O,rfl,by omega,hid (by rw[List.append_nil];exact M.out _),hid ⟨G.out,Y.out,Nat.le_refl _,by simp;omega⟩⟩
   case round=>
    clear k0 k1 f1 N M;obtain⟨k,t,i,p',D,rfl,hk,X,I⟩:=hrel;cases t with
    |zero=>exact absurd I.2.1 (by unfold A5g;simp only;omega)
    |succ t=>
     have hA:=hid X.atOf;have b1:=X.at_;have F:A5g .pair p'<=t:=by have:=I.2.1;unfold A5g at this ⊢;simp only at this ⊢;omega
     have z:=hid (H1.out t _ D (its++i) p' (by have:=I.2.2.1;omega) F (by rw[List.length_append];exact I.2.2.2) X.out);have r:=hid (E7w d t inn .pair p');have A:=hid (B9w d t inn .pair p');have V:=I.1;rw[D3r]at V;have H:=hid V;clear V F;cases hr:rGo d t inn .pair p' with
     |wrong e q3=>
      rw[hr]at z H;clear hr r A
      go_wp2_with fail
      refine Calls.mono z.out ?_;rintro x w3 ⟨rfl,m,C,a⟩;have y:=hid a;clear a;go_wp2;go_ret2;rw[<-H.out];exact⟨0,rfl,m,i++C,by rw[<-List.append_assoc];exact y.out⟩
     |ended la=>
      rw[hr]at z H;clear hr r A
      go_wp2_with fail
      refine Calls.mono z.out ?_;rintro x w3 ⟨rfl,m,C,a⟩;have y:=hid a;clear a;go_wp2;go_ret2;rw[<-H.out];exact⟨0,rfl,m,i++C,by rw[<-List.append_assoc];exact y.out⟩
     |ok a1 new p3=>
      rw[hr]at z H r A;clear hr;have a9:new.length+p3.length<=0+p'.length:=r.out;have a8:p3.length<=p'.length:=List.IsSuffix.length_le A.out;clear r A
      go_wp2_with fail
      refine Calls.mono z.out ?_;rintro x w3 ⟨rfl,m,a⟩;have v:=hid (C1a B w0 w3 l p3 125 inn d m _ (by omega) a);have E:=(A0x p3).length_le;clear a;have g:=H.out
      have S:=hid (show∀b q,B1c 125 p3=.ok b q->q.length+1<=p3.length fromλb q o=>by
       unfold B1c at o;cases hy:A0s p3 with
       |nil=>rw[hy]at o;cases o
       |cons c q=>
        rw[hy]at o E;simp only at o;split at o
        ·cases o;exact E
        split at o
        ·cases o;exact E
        ·cases o)
      cases o:B1c 125 p3 with
      |wrong e q3=>
       rw[o]at v g;have u:=hid g;clear o g H S
       go_wp2_with fail
       refine Calls.mono v.out ?_;rintro x W ⟨rfl,a⟩;unfold F9w;have y:=hid a;clear a;go_wp2;go_ret2;rw[<-u.out];exact⟨k,rfl,m,i++new,by rw[<-List.append_assoc];exact y.out⟩
      |ended=>
       rw[o]at v g;have u:=hid g;clear o g H S
       go_wp2_with fail
       refine Calls.mono v.out ?_;rintro x W ⟨rfl,a⟩;unfold F9w;have y:=hid a;clear a;go_wp2;go_ret2;rw[<-u.out];exact⟨k,rfl,m,i++new,by rw[<-List.append_assoc];exact y.out⟩
      |ok b q3=>
       have b2:=S.out b q3 o;rw[o]at v g;clear o H S;cases b with
       |true=>
        have u:=hid g;clear g
        go_wp2_with fail
        refine Calls.mono v.out ?_;rintro x W ⟨rfl,a⟩;unfold E0b;have y:=hid a;clear a;go_wp2;go_ret2;rw[<-u.out];exact⟨rfl,m,by rw[<-List.append_assoc];exact y.out⟩
       |false=>
        have u:=hid g;clear g
        go_wp2_with fail
        refine Calls.mono v.out ?_;rintro x W ⟨rfl,a⟩;unfold E0b;have y:=hid a;clear a;go_wp2;exact⟨⟨k+1,t,i++new,q3,m,rfl,by omega,hid (by rw[<-List.append_assoc];exact y.out),hid ⟨u.out,by have:=I.2.1;unfold A5g at this ⊢;simp only at this ⊢;omega,by have:=I.2.2.1;omega,by have:=I.2.2.2;rw[List.length_append];omega⟩⟩,by rw[y.atOf,hA.out];have:=y.at_;omega⟩
end Go.Proofs.YtmkkibaacclhnaaGreatDoor
