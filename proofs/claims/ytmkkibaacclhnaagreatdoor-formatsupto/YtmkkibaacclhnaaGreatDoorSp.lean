/-
  Part Sp.
-/
import Derived.Test.YtmkkibaacclhnaaGreatDoorSn
namespace Go.Proofs.YtmkkibaacclhnaaGreatDoor
open Go.RowKit
set_option maxRecDepth 100000
set_option maxHeartbeats 40000000
theorem C4d {B:Nat} {w0 o:World} {l:LU8} {inn d:Nat} {its:List It} {z:It} {U:RV} {x:Ending} (k:Nat) (h:D3p B w0 l (inn+1) d (its++[z]) U x o):
 ∃(m:Nat) (b:Bool) (q:LU8) (c:Value) (a:List It) (e:Nat) (en j:Bool),x=.returned (.tuple #[.int .i64 (m:Int),.bool b])/\SC B w0 o l q (inn+1) d c (its++z::a) e en j/\
  ∀w' vi',SC B w0 w' l q inn d vi' (its++⟨k,m,0,[]⟩::a) e en j->B1i B w0 l inn d its (B7r k U) (.returned (.bool b)) w':=by
 have i:∀new:List It,its++[z]++new=its++z::new:=λnew=>by simp
 cases U with
 |ok n new q=>
  obtain⟨f,c,g⟩:=h;exact⟨n,true,q,c,new,0,false,false,f,by rw[<-i];exact g,λw' vi' h3=>⟨rfl,vi',h3⟩⟩
 |wrong e q=>
  obtain⟨m,f,c,a,g⟩:=h;exact⟨m,false,q,c,a,e,false,false,f,by rw[<-i];exact g,λw' vi' h3=>⟨rfl,vi',_,h3⟩⟩
 |ended late=>
  obtain⟨m,f,c,a,g⟩:=h;exact⟨m,false,[],c,a,0,true,late,f,by rw[<-i];exact g,λw' vi' h3=>⟨rfl,vi',_,h3⟩⟩
theorem B5m (w:World) (a:Addr) (v:Value):(w.setCell a v).heap.size=w.heap.size:=by
 unfold World.setCell;simp
theorem E7y (W:World) (n:Nat) (a b c d:Value) (t:TypeId) (e:W.heap.size=n):∀(j:Nat) (u:Value),[a,b,c,d][j]? =some u->(W.alloc (.cells #[a,b,c,d] t)).cell? ((⟨n,0,none⟩:Addr).add j)=some u:=by
 subst e;exact A3p W a b c d t
theorem D0s {w:World} {e n g cap:Nat} {xs:List Value} {i:Nat} (h:w.ownsRow 0 e 4 (.slice (some ⟨g,0,none⟩) n cap) n xs) (s:i<n):w.there g (i*4) 4:=by
 rcases h.2 with⟨k,_⟩|⟨l,c,a,f,m,d,o,p,q,r⟩
 ·cases k
 ·simp at f
  obtain⟨rfl,rfl⟩:=f;intro j t;have b:i*4+j<a.size:=by omega
  refine⟨?_,A0b d⟩;rw[A0a d (Array.getElem?_eq_getElem b)];rfl
theorem C2g (B:Nat) (w0 w:World) (l p q:LU8) (c:UInt8) (f inn d:Nat) (E:Value) (its:List It) (F:l.length<=1800000) (_hil:its.length<=10000000) (_hd:d<=1000) (h:SC B w0 w l p inn d E its 0 false false) (r:A0s p=c::q) (k:c=91) (e:inn=d):
 Calls Tryz.prog 52 #[.pointer (some ⟨B,0,none⟩)] w (B1i B w0 l inn d its (rGo d (f+1) inn .val p)):=by
 obtain⟨a,n,cap,rfl⟩:=A0h h.oi;obtain rfl:=A1a h.oi;have s:=hid (A2n B w0 w l p inn d _ its 0 false false (by omega) h);rw[r]at s;have o:=A0c l;have A:c.toNat<256:=c.toNat_lt;obtain⟨U,i⟩:∃U,rGo d (f+1) inn .val p=U:=⟨_,rfl⟩;rw[i];rw[A5k r]at i;clear h r;rw[if_neg (by rw[k];decide),if_pos k,if_pos e]at i;subst k;have z:=hid i;have D:((inn:Int)==(d:Int))=true:=by rw[e];simp
 clear i e;go_enter Tryz.func52,Tryz.ntmps52
 go_wp2_with fail
 refine Calls.mono s.out ?_;rintro x u ⟨rfl,g⟩;have b:SC B w0 u l (91::q) inn d (.slice a its.length cap) its 0 false false:=g;clear g;obtain⟨m,t⟩:=A3i b.suf;have G:=A0a b.blk (show(A0e l (l.length-(91::q).length) inn d (.slice a its.length cap) 0 false false)[0]? =some (.string (ofL l))from rfl);have H:=A0a b.blk (show(A0e l (l.length-(91::q).length) inn d (.slice a its.length cap) 0 false false)[1]? =some (.int .i64 ((l.length-(91::q).length:Nat):Int))from rfl);have C:(ofL l)[l.length-(91::q).length]'(by rw[o];exact m)=91:=(A1d l _ _).trans t;have y:=hid b;have I:=A0a b.blk (show(A0e l (l.length-(91::q).length) inn d (.slice a its.length cap) 0 false false)[2]? =some (.int .i64 (inn:Int))from rfl);have J:=A0a b.blk (show(A0e l (l.length-(91::q).length) inn d (.slice a its.length cap) 0 false false)[3]? =some (.int .i64 (d:Int))from rfl);have j:=hid (λn=>A2m B w0 (u.drewN n) l (91::q) inn d (.slice a its.length cap) its 0 4 false false (b.drewN n));generalize l.length-(91::q).length=ps at*;clear t b;go_wp2;go_quiet (fail);go_wp2;go_quiet (fail)
 go_wp2_with fail
 refine Calls.mono (j.out _) ?_;rintro x K ⟨rfl,g⟩;have v:=hid g;clear g;go_wp2;go_ret;rw[<-z.out];exact⟨rfl,_,[],by rw[List.append_nil];exact v.out⟩
theorem C2h (B:Nat) (w0 w:World) (l p q:LU8) (c:UInt8) (f inn d:Nat) (vi:Value) (its:List It) (hl:l.length<=1800000) (a7:its.length<=10000000) (_hd:d<=1000) (h:SC B w0 w l p inn d vi its 0 false false) (Q:A0s p=c::q) (M:c=91) (I:inn≠d) (a1:inn<=1000)
 (hV:∀(w':World) (W:Value),SC B w0 w' l q (inn+1) d W (its++[⟨0,0,0,[]⟩]) 0 false false->Calls Tryz.prog 90 #[.pointer (some ⟨B,0,none⟩)] w' (D3p B w0 l (inn+1) d (its++[⟨0,0,0,[]⟩]) (rGo d f (inn+1) .vals q))):
 Calls Tryz.prog 52 #[.pointer (some ⟨B,0,none⟩)] w (B1i B w0 l inn d its (rGo d (f+1) inn .val p)):=by
 obtain⟨a,n,cap,rfl⟩:=A0h h.oi;obtain rfl:=A1a h.oi;have Y:=hid (A2n B w0 w l p inn d _ its 0 false false (by omega) h);rw[Q]at Y;have O:=A0c l;have a4:c.toNat<256:=c.toNat_lt;obtain⟨U,H⟩:∃U,rGo d (f+1) inn .val p=U:=⟨_,rfl⟩;rw[H];rw[A5k Q]at H;clear h Q;rw[if_neg (by rw[M];decide),if_pos M,if_neg I]at H;subst M;have HU:=hid H;have HV:=hid hV;have a6:((inn:Int)==(d:Int))=false:=bqF (by omega);obtain⟨i0,hi,R,S,T⟩:=info_parts Tryz.info29;clear H I hV;go_enter Tryz.func52,Tryz.ntmps52
 go_wp2_with fail
 refine Calls.mono Y.out ?_;rintro x X ⟨rfl,A⟩;have i:SC B w0 X l (91::q) inn d (.slice a its.length cap) its 0 false false:=A;clear A;obtain⟨N,J⟩:=A3i i.suf;have k0:=A0a i.blk (show(A0e l (l.length-(91::q).length) inn d (.slice a its.length cap) 0 false false)[0]? =some (.string (ofL l))from rfl);have k1:=A0a i.blk (show(A0e l (l.length-(91::q).length) inn d (.slice a its.length cap) 0 false false)[1]? =some (.int .i64 ((l.length-(91::q).length:Nat):Int))from rfl);have a5:(ofL l)[l.length-(91::q).length]'(by rw[O];exact N)=91:=(A1d l _ _).trans J;have a2:=hid i;have k2:=A0a i.blk (show(A0e l (l.length-(91::q).length) inn d (.slice a its.length cap) 0 false false)[2]? =some (.int .i64 (inn:Int))from rfl);have k3:=A0a i.blk (show(A0e l (l.length-(91::q).length) inn d (.slice a its.length cap) 0 false false)[3]? =some (.int .i64 (d:Int))from rfl);have V:=A0a i.blk (show(A0e l (l.length-(91::q).length) inn d (.slice a its.length cap) 0 false false)[4]? =some (.slice a its.length cap)from rfl);have f1:=A0b (j:=1) i.blk;have f2:=A0b (j:=2) i.blk;have f4:=A0b (j:=4) i.blk;have G:=hid (λn=>(i.drewN n).step.cell 2 (.int .i64 ((inn:Int)+1)) (p':=q) (inn':=inn+1) (e':=0) (en':=false) (la':=false) (C5x i.suf) rfl);have Z:=hid (λn=>(show(((X.drewN n).setCell ⟨B,1,none⟩ (.int .i64 ((l.length-(91::q).length:Nat)+1:Int))).setCell ⟨B,2,none⟩ (.int .i64 ((inn:Int)+1))).heap.size=X.heap.size by rw[B5m,B5m];rfl));generalize l.length-(91::q).length=ps at*;clear J i;go_wp2;go_quiet (fail);go_wp2;go_quiet (fail)
 go_wp2_with (first
  |(at_builtin;refine A0g _ rfl _ _ 22 rfl 29 i0 (.agg #[.int .i64 0,.int .i64 0,.int .u64 0,.string ⟨#[]⟩]) 4 40 Tryz.underlying22 hi R S T rfl (by decide) _ _ _ rfl ((G.out _).oi.alloc _) ⟨_,0,none⟩ 1 1 (A1f ⟨0,0,0,[]⟩) rfl rfl ?c1 ?c2 ?c3 ?c4 ?_)
  |fail)
 case c1=>exact E7y _ _ _ _ _ _ _ (Z.out _)
 case c2=>intro u hu;simp[A1f]at hu;rcases hu with rfl|rfl|rfl|rfl<;>rfl
 case c3=>unfold maxLen;omega
 case c4=>omega
 intro v' w1 r z D;obtain⟨a',n',a0,rfl⟩:=A0h r;obtain⟨E,hR⟩:=(G.out _).growI ⟨0,0,0,[]⟩ r z (λg J=>by rw[Z.out];exact D g J);have q4:=A0a E (show(A0e l (l.length-q.length) (inn+1) d (.slice a its.length cap) 0 false false)[4]? =some (.slice a its.length cap)from rfl);have p4:=A0b (j:=4) E;have HQ:=hid (HV.out _ _ hR);clear r z D E hR k0 k1 k2 k3 V f1 f2 f4
 go_wp2_with fail
 refine Calls.mono HQ.out ?_;intro x w3 hp;obtain⟨m,b,L,b0,k,e,en,K,rfl,A,hF⟩:=C4d 5 hp;have o:(its++(⟨0,0,0,[]⟩:It)::k).length=its.length+k.length+1:=by simp;omega
 obtain⟨a3,n3,s,rfl⟩:=A0h A.oi;obtain rfl:=A1a A.oi;obtain⟨g,rfl⟩:=A5s A.oi (by rw[o];omega);have P:w3.there g (its.length*4) 4:=D0s A.oi (by rw[o];omega);have t:SC B w0 (w3.setCells g (its.length*4) [.int .i64 5,.int .i64 (m:Int),.int .u64 0,.string (ofL [])]) l L (inn+1) d (.slice (some ⟨g,0,none⟩) (its++(⟨0,0,0,[]⟩:It)::k).length s) (its++(⟨5,m,0,[]⟩:It)::k) e en K:=A.setItem (y:=⟨5,m,0,[]⟩) (its.length*4) rfl;have j2:=A0a t.blk (show(A0e l (l.length-L.length) (inn+1) d (.slice (some ⟨g,0,none⟩) (its++(⟨0,0,0,[]⟩:It)::k).length s) e en K)[2]? =some (.int .i64 ((inn:Int)+1))from rfl);have a9:=A0b (j:=2) t.blk;have C:=hid (hF _ _ (t.cell 2 (.int .i64 (inn:Int)) (p':=L) (inn':=inn) (e':=e) (en':=en) (la':=K) t.suf rfl));rw[HU.out]at C;have V:=A0a A.blk (show(A0e l (l.length-L.length) (inn+1) d (.slice (some ⟨g,0,none⟩) (its++(⟨0,0,0,[]⟩:It)::k).length s) e en K)[4]? =some (.slice (some ⟨g,0,none⟩) (its++(⟨0,0,0,[]⟩:It)::k).length s)from rfl);rw[o]at V;have a8:its.length<its.length+k.length+1:=by omega
 have F:(Tryz.prog.info? 29).map (·.size)=some 4:=by kernel_rfl
 clear A hF o hp t
 go_wp2_with (first|(refine wpList_store_mid rfl 29 _ _ rfl g (its.length*4) #[.int .i64 (5:Nat),.int .i64 (m:Int),.int .u64 (0:Nat),.string (ofL [])] ?s1 ?s2 ?t1 ?t2 ?t3 ?_)|fail)
 case s1=>rfl
 case s2=>rfl
 case t1=>exact P
 case t2=>exact F
 case t3=>exact Array.all_eq_true_iff_forall_mem.2 (λv hv=>by simp at hv;rcases hv with rfl|rfl|rfl|rfl<;>rfl)
 go_ret;exact C.out
theorem C2i (B:Nat) (w0 w:World) (l p q:LU8) (c:UInt8) (f inn d:Nat) (E:Value) (its:List It) (F:l.length<=1800000) (_hil:its.length<=10000000) (_hd:d<=1000) (h:SC B w0 w l p inn d E its 0 false false) (r:A0s p=c::q) (j:c=123) (e:inn=d):
 Calls Tryz.prog 52 #[.pointer (some ⟨B,0,none⟩)] w (B1i B w0 l inn d its (rGo d (f+1) inn .val p)):=by
 obtain⟨a,n,cap,rfl⟩:=A0h h.oi;obtain rfl:=A1a h.oi;have s:=hid (A2n B w0 w l p inn d _ its 0 false false (by omega) h);rw[r]at s;have o:=A0c l;have A:c.toNat<256:=c.toNat_lt;obtain⟨U,i⟩:∃U,rGo d (f+1) inn .val p=U:=⟨_,rfl⟩;rw[i];rw[A5k r]at i;clear h r;rw[if_neg (by rw[j];decide),if_neg (by rw[j];decide),if_pos j,if_pos e]at i;subst j;have z:=hid i;have D:((inn:Int)==(d:Int))=true:=by rw[e];simp
 clear i e;go_enter Tryz.func52,Tryz.ntmps52
 go_wp2_with fail
 refine Calls.mono s.out ?_;rintro x u ⟨rfl,g⟩;have b:SC B w0 u l (123::q) inn d (.slice a its.length cap) its 0 false false:=g;clear g;obtain⟨m,t⟩:=A3i b.suf;have G:=A0a b.blk (show(A0e l (l.length-(123::q).length) inn d (.slice a its.length cap) 0 false false)[0]? =some (.string (ofL l))from rfl);have H:=A0a b.blk (show(A0e l (l.length-(123::q).length) inn d (.slice a its.length cap) 0 false false)[1]? =some (.int .i64 ((l.length-(123::q).length:Nat):Int))from rfl);have C:(ofL l)[l.length-(123::q).length]'(by rw[o];exact m)=123:=(A1d l _ _).trans t;have y:=hid b;have I:=A0a b.blk (show(A0e l (l.length-(123::q).length) inn d (.slice a its.length cap) 0 false false)[2]? =some (.int .i64 (inn:Int))from rfl);have J:=A0a b.blk (show(A0e l (l.length-(123::q).length) inn d (.slice a its.length cap) 0 false false)[3]? =some (.int .i64 (d:Int))from rfl);have k:=hid (λn=>A2m B w0 (u.drewN n) l (123::q) inn d (.slice a its.length cap) its 0 4 false false (b.drewN n));generalize l.length-(123::q).length=ps at*;clear t b;go_wp2;go_quiet (fail);go_wp2;go_quiet (fail)
 go_wp2_with fail
 refine Calls.mono (k.out _) ?_;rintro x K ⟨rfl,g⟩;have v:=hid g;clear g;go_wp2;go_ret;rw[<-z.out];exact⟨rfl,_,[],by rw[List.append_nil];exact v.out⟩
theorem C2j (B:Nat) (w0 w:World) (l p q:LU8) (c:UInt8) (f inn d:Nat) (vi:Value) (its:List It) (hl:l.length<=1800000) (a7:its.length<=10000000) (_hd:d<=1000) (h:SC B w0 w l p inn d vi its 0 false false) (Q:A0s p=c::q) (J:c=123) (I:inn≠d) (a1:inn<=1000)
 (hV:∀(w':World) (W:Value),SC B w0 w' l q (inn+1) d W (its++[⟨0,0,0,[]⟩]) 0 false false->Calls Tryz.prog 89 #[.pointer (some ⟨B,0,none⟩)] w' (D3p B w0 l (inn+1) d (its++[⟨0,0,0,[]⟩]) (rGo d f (inn+1) .pairs q))):
 Calls Tryz.prog 52 #[.pointer (some ⟨B,0,none⟩)] w (B1i B w0 l inn d its (rGo d (f+1) inn .val p)):=by
 obtain⟨a,n,cap,rfl⟩:=A0h h.oi;obtain rfl:=A1a h.oi;have Y:=hid (A2n B w0 w l p inn d _ its 0 false false (by omega) h);rw[Q]at Y;have O:=A0c l;have a4:c.toNat<256:=c.toNat_lt;obtain⟨U,H⟩:∃U,rGo d (f+1) inn .val p=U:=⟨_,rfl⟩;rw[H];rw[A5k Q]at H;clear h Q;rw[if_neg (by rw[J];decide),if_neg (by rw[J];decide),if_pos J,if_neg I]at H;subst J;have HU:=hid H;have HV:=hid hV;have a6:((inn:Int)==(d:Int))=false:=bqF (by omega);obtain⟨i0,hi,R,S,T⟩:=info_parts Tryz.info29;clear H I hV;go_enter Tryz.func52,Tryz.ntmps52
 go_wp2_with fail
 refine Calls.mono Y.out ?_;rintro x X ⟨rfl,A⟩;have i:SC B w0 X l (123::q) inn d (.slice a its.length cap) its 0 false false:=A;clear A;obtain⟨N,K⟩:=A3i i.suf;have k0:=A0a i.blk (show(A0e l (l.length-(123::q).length) inn d (.slice a its.length cap) 0 false false)[0]? =some (.string (ofL l))from rfl);have k1:=A0a i.blk (show(A0e l (l.length-(123::q).length) inn d (.slice a its.length cap) 0 false false)[1]? =some (.int .i64 ((l.length-(123::q).length:Nat):Int))from rfl);have a5:(ofL l)[l.length-(123::q).length]'(by rw[O];exact N)=123:=(A1d l _ _).trans K;have a2:=hid i;have k2:=A0a i.blk (show(A0e l (l.length-(123::q).length) inn d (.slice a its.length cap) 0 false false)[2]? =some (.int .i64 (inn:Int))from rfl);have k3:=A0a i.blk (show(A0e l (l.length-(123::q).length) inn d (.slice a its.length cap) 0 false false)[3]? =some (.int .i64 (d:Int))from rfl);have V:=A0a i.blk (show(A0e l (l.length-(123::q).length) inn d (.slice a its.length cap) 0 false false)[4]? =some (.slice a its.length cap)from rfl);have f1:=A0b (j:=1) i.blk;have f2:=A0b (j:=2) i.blk;have f4:=A0b (j:=4) i.blk;have G:=hid (λn=>(i.drewN n).step.cell 2 (.int .i64 ((inn:Int)+1)) (p':=q) (inn':=inn+1) (e':=0) (en':=false) (la':=false) (C5x i.suf) rfl);have Z:=hid (λn=>(show(((X.drewN n).setCell ⟨B,1,none⟩ (.int .i64 ((l.length-(123::q).length:Nat)+1:Int))).setCell ⟨B,2,none⟩ (.int .i64 ((inn:Int)+1))).heap.size=X.heap.size by rw[B5m,B5m];rfl));generalize l.length-(123::q).length=ps at*;clear K i;go_wp2;go_quiet (fail);go_wp2;go_quiet (fail)
 go_wp2_with (first
  |(at_builtin;refine A0g _ rfl _ _ 22 rfl 29 i0 (.agg #[.int .i64 0,.int .i64 0,.int .u64 0,.string ⟨#[]⟩]) 4 40 Tryz.underlying22 hi R S T rfl (by decide) _ _ _ rfl ((G.out _).oi.alloc _) ⟨_,0,none⟩ 1 1 (A1f ⟨0,0,0,[]⟩) rfl rfl ?c1 ?c2 ?c3 ?c4 ?_)
  |fail)
 case c1=>exact E7y _ _ _ _ _ _ _ (Z.out _)
 case c2=>intro u hu;simp[A1f]at hu;rcases hu with rfl|rfl|rfl|rfl<;>rfl
 case c3=>unfold maxLen;omega
 case c4=>omega
 intro v' w1 r z D;obtain⟨a',n',a0,rfl⟩:=A0h r;obtain⟨E,hR⟩:=(G.out _).growI ⟨0,0,0,[]⟩ r z (λg K=>by rw[Z.out];exact D g K);have q4:=A0a E (show(A0e l (l.length-q.length) (inn+1) d (.slice a its.length cap) 0 false false)[4]? =some (.slice a its.length cap)from rfl);have p4:=A0b (j:=4) E;have HQ:=hid (HV.out _ _ hR);clear r z D E hR k0 k1 k2 k3 V f1 f2 f4
 go_wp2_with fail
 refine Calls.mono HQ.out ?_;intro x w3 hp;obtain⟨m,b,M,b0,k,e,en,L,rfl,A,hF⟩:=C4d 6 hp;have o:(its++(⟨0,0,0,[]⟩:It)::k).length=its.length+k.length+1:=by simp;omega
 obtain⟨a3,n3,s,rfl⟩:=A0h A.oi;obtain rfl:=A1a A.oi;obtain⟨g,rfl⟩:=A5s A.oi (by rw[o];omega);have P:w3.there g (its.length*4) 4:=D0s A.oi (by rw[o];omega);have t:SC B w0 (w3.setCells g (its.length*4) [.int .i64 6,.int .i64 (m:Int),.int .u64 0,.string (ofL [])]) l M (inn+1) d (.slice (some ⟨g,0,none⟩) (its++(⟨0,0,0,[]⟩:It)::k).length s) (its++(⟨6,m,0,[]⟩:It)::k) e en L:=A.setItem (y:=⟨6,m,0,[]⟩) (its.length*4) rfl;have j2:=A0a t.blk (show(A0e l (l.length-M.length) (inn+1) d (.slice (some ⟨g,0,none⟩) (its++(⟨0,0,0,[]⟩:It)::k).length s) e en L)[2]? =some (.int .i64 ((inn:Int)+1))from rfl);have a9:=A0b (j:=2) t.blk;have C:=hid (hF _ _ (t.cell 2 (.int .i64 (inn:Int)) (p':=M) (inn':=inn) (e':=e) (en':=en) (la':=L) t.suf rfl));rw[HU.out]at C;have V:=A0a A.blk (show(A0e l (l.length-M.length) (inn+1) d (.slice (some ⟨g,0,none⟩) (its++(⟨0,0,0,[]⟩:It)::k).length s) e en L)[4]? =some (.slice (some ⟨g,0,none⟩) (its++(⟨0,0,0,[]⟩:It)::k).length s)from rfl);rw[o]at V;have a8:its.length<its.length+k.length+1:=by omega
 have F:(Tryz.prog.info? 29).map (·.size)=some 4:=by kernel_rfl
 clear A hF o hp t
 go_wp2_with (first|(refine wpList_store_mid rfl 29 _ _ rfl g (its.length*4) #[.int .i64 (6:Nat),.int .i64 (m:Int),.int .u64 (0:Nat),.string (ofL [])] ?s1 ?s2 ?t1 ?t2 ?t3 ?_)|fail)
 case s1=>rfl
 case s2=>rfl
 case t1=>exact P
 case t2=>exact F
 case t3=>exact Array.all_eq_true_iff_forall_mem.2 (λv hv=>by simp at hv;rcases hv with rfl|rfl|rfl|rfl<;>rfl)
 go_ret;exact C.out
theorem D0t {d f inn:Nat} {p:LU8} (h:A0s p=[]):rGo d (f+1) inn .vals p=.ended false:=by
 rw[rGo.eq_def];simp only;rw[h]
theorem C7e {d f inn:Nat} {p q:LU8} {c:UInt8} (h:A0s p=c::q):rGo d (f+1) inn .vals p=if c=93 then .ok 0 [] q else rGo d f inn (.valsGo 1 []) (c::q):=by
 rw[rGo.eq_def];simp only;rw[h]
theorem E0k {d f inn n:Nat} {a:List It} {p:LU8}:rGo d (f+1) inn (.valsGo n a) p=match rGo d f inn .val p with
 |.wrong e q=>.wrong e q
 |.ended l=>.ended l
 |.ok _ its p=>match B1c 93 p with
  |.ended=>.ended false
  |.wrong e q=>.wrong e q
  |.ok true q=>.ok n (a++its) q
  |.ok false q=>rGo d f inn (.valsGo (n+1) (a++its)) q:=by
 rw[rGo.eq_def];simp only;cases rGo d f inn .val p with
 |wrong e q=>rfl
 |ended l=>rfl
 |ok k its p=>
  simp only;unfold B1c;cases A0s p with
  |nil=>rfl
  |cons c q=>
   simp only;by_cases b:c=93
   ·rw[if_pos b,if_pos b]
   ·rw[if_neg b,if_neg b]
    by_cases g:c=44
    ·rw[if_pos g,if_pos g]
    ·rw[if_neg g,if_neg g]
theorem F4e (B:Nat) (w0 w:World) (l p:LU8) (f inn d:Nat) (Q:Value) (its:List It) (hl:l.length<=1800000) (a9:its.length+p.length<=8000000) (Z:A5g .vals p<=f+1) (h:SC B w0 w l p inn d Q its 0 false false)
 (V:∀(t:Nat) (w':World) (F:Value) (its':List It) (p':LU8),t<=f->A5g .val p'<=t->its'.length+p'.length<=8000000->SC B w0 w' l p' inn d F its' 0 false false->Calls Tryz.prog 52 #[.pointer (some ⟨B,0,none⟩)] w' (B1i B w0 l inn d its' (rGo d t inn .val p'))):
 Calls Tryz.prog 90 #[.pointer (some ⟨B,0,none⟩)] w (D3p B w0 l inn d its (rGo d (f+1) inn .vals p)):=by
 have L:=hid (A2n B w0 w l p inn d _ its 0 false false (by omega) h);have a2:=A0c l;have b1:=h.at_;have H1:=hid V;have J:=(A0x p).length_le;cases K:A0s p with
 |nil=>
  rw[D0t K];rw[K]at L;clear h K V;go_enter Tryz.func90,Tryz.ntmps90
  go_wp2_with fail
  refine Calls.mono L.out ?_;rintro x w2 ⟨rfl,a⟩;have v:=hid a;clear a;go_wp2;go_ret2;exact⟨0,rfl,_,[],by rw[List.append_nil];exact v.out⟩
 |cons c q=>
  rw[C7e K];rw[K]at L J;have hq:q.length+1<=p.length:=J;have a7:c.toNat<256:=c.toNat_lt;obtain⟨U,Y⟩:∃U,(if c=93 then RV.ok 0 [] q else rGo d f inn (.valsGo 1 []) (c::q))=U:=⟨_,rfl⟩;rw[Y];have S:=hid Y;have O:A5g (.valsGo 1 []) (c::q)<=f:=by unfold A5g at Z ⊢;simp only[List.length_cons]at Z ⊢;omega
  have a4:its.length+(c::q).length<=8000000:=by simp only[List.length_cons];omega
  clear h K V Y J Z;go_enter Tryz.func90,Tryz.ntmps90
  go_wp2_with fail
  refine Calls.mono L.out ?_;rintro x w2 ⟨rfl,a⟩;have r:SC B w0 w2 l (c::q) inn d Q its 0 false false:=a;clear a;obtain⟨a0,hg⟩:=A3i r.suf;have k0:=A0a r.blk (show(A0e l (l.length-(c::q).length) inn d Q 0 false false)[0]? =some (.string (ofL l))from rfl);have k1:=A0a r.blk (show(A0e l (l.length-(c::q).length) inn d Q 0 false false)[1]? =some (.int .i64 ((l.length-(c::q).length:Nat):Int))from rfl);have f1:=A0b (j:=1) r.blk;have a8:(ofL l)[l.length-(c::q).length]'(by rw[a2];exact a0)=c:=(A1d l _ _).trans hg;have P:=hid (λn=>(r.drewN n).step);have M:=hid (λn=>r.drewN n);have a3:=r.at_;generalize l.length-(c::q).length=ps at*;clear hg r L;by_cases N:c=93
  ·have G:=S.out
   rw[if_pos N]at G;have G:=hid G;subst N;clear S;go_wp2;go_quiet (fail);go_wp2;go_ret2;rw[<-G.out];exact⟨rfl,_,by rw[List.append_nil];exact P.out _⟩
  ·have m:((c.toNat:Int)==93)=false:=bqF (by have:=A0k N;simp at this;omega)
   have G:=S.out;rw[if_neg N]at G;have G:=hid G;have a5:(c::q).length<=1800000:=by omega
   clear S N;have T:=hid O;clear O;go_wp2;go_quiet (fail);go_wp2
   go_loopw [5] (λn wr=>∃(k t:Nat) (i:List It) (p':LU8) (F:Value),n=.int .i64 (k:Int)/\k+p'.length<=(c::q).length+1/\Hid (SC B w0 wr l p' inn d F (its++i) 0 false false)/\Hid (rGo d t inn (.valsGo k i) p'=U/\A5g (.valsGo k i) p'<=t/\t<=f/\its.length+i.length+p'.length<=8000000)) (λ_ wr=>l.length-atOf wr B)
   case atStart=>exact⟨1,f,[],c::q,Q,rfl,by omega,hid (by rw[List.append_nil];exact M.out _),hid ⟨G.out,T.out,Nat.le_refl _,by simp;omega⟩⟩
   case round=>
    clear k0 k1 f1 P M;obtain⟨k,t,i,p',F,rfl,hk,X,I⟩:=hrel;cases t with
    |zero=>exact absurd I.2.1 (by unfold A5g;simp only;omega)
    |succ t=>
     have hA:=hid X.atOf;have a6:=X.at_;have A:A5g .val p'<=t:=by have:=I.2.1;unfold A5g at this ⊢;simp only at this ⊢;omega
     have z:=hid (H1.out t _ F (its++i) p' (by have:=I.2.2.1;omega) A (by rw[List.length_append];exact I.2.2.2) X.out);have s:=hid (E7w d t inn .val p');have C:=hid (B9w d t inn .val p');have W:=I.1;rw[E0k]at W;have H:=hid W;clear W A;cases hr:rGo d t inn .val p' with
     |wrong e q3=>
      rw[hr]at z H;clear hr s C
      go_wp2_with fail
      refine Calls.mono z.out ?_;rintro x w3 ⟨rfl,o,E,a⟩;have v:=hid a;clear a;go_wp2;go_ret2;rw[<-H.out];exact⟨0,rfl,o,i++E,by rw[<-List.append_assoc];exact v.out⟩
     |ended la=>
      rw[hr]at z H;clear hr s C
      go_wp2_with fail
      refine Calls.mono z.out ?_;rintro x w3 ⟨rfl,o,E,a⟩;have v:=hid a;clear a;go_wp2;go_ret2;rw[<-H.out];exact⟨0,rfl,o,i++E,by rw[<-List.append_assoc];exact v.out⟩
     |ok a1 new p3=>
      rw[hr]at z H s C;clear hr;have b0:new.length+p3.length<=0+p'.length:=s.out;have b2:p3.length<=p'.length:=List.IsSuffix.length_le C.out;clear s C
      go_wp2_with fail
      refine Calls.mono z.out ?_;rintro x w3 ⟨rfl,o,a⟩;have u:=hid (C1a B w0 w3 l p3 93 inn d o _ (by omega) a);have D:=(A0x p3).length_le;clear a;have g:=H.out
      have R:=hid (show∀b q,B1c 93 p3=.ok b q->q.length+1<=p3.length fromλb q m=>by
       unfold B1c at m;cases hy:A0s p3 with
       |nil=>rw[hy]at m;cases m
       |cons c q=>
        rw[hy]at m D;simp only at m;split at m
        ·cases m;exact D
        split at m
        ·cases m;exact D
        ·cases m)
      cases m:B1c 93 p3 with
      |wrong e q3=>
       rw[m]at u g;have y:=hid g;clear m g H R
       go_wp2_with fail
       refine Calls.mono u.out ?_;rintro x w4 ⟨rfl,a⟩;unfold F9w;have v:=hid a;clear a;go_wp2;go_ret2;rw[<-y.out];exact⟨k,rfl,o,i++new,by rw[<-List.append_assoc];exact v.out⟩
      |ended=>
       rw[m]at u g;have y:=hid g;clear m g H R
       go_wp2_with fail
       refine Calls.mono u.out ?_;rintro x w4 ⟨rfl,a⟩;unfold F9w;have v:=hid a;clear a;go_wp2;go_ret2;rw[<-y.out];exact⟨k,rfl,o,i++new,by rw[<-List.append_assoc];exact v.out⟩
      |ok b q3=>
       have b3:=R.out b q3 m;rw[m]at u g;clear m H R;cases b with
       |true=>
        have y:=hid g;clear g
        go_wp2_with fail
        refine Calls.mono u.out ?_;rintro x w4 ⟨rfl,a⟩;unfold E0b;have v:=hid a;clear a;go_wp2;go_ret2;rw[<-y.out];exact⟨rfl,o,by rw[<-List.append_assoc];exact v.out⟩
       |false=>
        have y:=hid g;clear g
        go_wp2_with fail
        refine Calls.mono u.out ?_;rintro x w4 ⟨rfl,a⟩;unfold E0b;have v:=hid a;clear a;go_wp2;exact⟨⟨k+1,t,i++new,q3,o,rfl,by omega,hid (by rw[<-List.append_assoc];exact v.out),hid ⟨y.out,by have:=I.2.1;unfold A5g at this ⊢;simp only at this ⊢;omega,by have:=I.2.2.1;omega,by have:=I.2.2.2;rw[List.length_append];omega⟩⟩,by rw[v.atOf,hA.out];have:=v.at_;omega⟩
theorem C7f {d f inn:Nat} {p:LU8} (h:A0s p=[]):rGo d (f+1) inn .pairs p=.ended false:=by
 rw[rGo.eq_def];simp only;rw[h]
theorem C2k {d f inn:Nat} {p q:LU8} {c:UInt8} (h:A0s p=c::q):rGo d (f+1) inn .pairs p=if c=125 then .ok 0 [] q else rGo d f inn (.pairsGo 1 []) (c::q):=by
 rw[rGo.eq_def];simp only;rw[h]
theorem D3r {d f inn n:Nat} {a:List It} {p:LU8}:rGo d (f+1) inn (.pairsGo n a) p=match rGo d f inn .pair p with
 |.wrong e q=>.wrong e q
 |.ended l=>.ended l
 |.ok _ its p=>match B1c 125 p with
  |.ended=>.ended false
  |.wrong e q=>.wrong e q
  |.ok true q=>.ok n (a++its) q
  |.ok false q=>rGo d f inn (.pairsGo (n+1) (a++its)) q:=by
 rw[rGo.eq_def];simp only;cases rGo d f inn .pair p with
 |wrong e q=>rfl
 |ended l=>rfl
 |ok k its p=>
  simp only;unfold B1c;cases A0s p with
  |nil=>rfl
  |cons c q=>
   simp only;by_cases b:c=125
   ·rw[if_pos b,if_pos b]
   ·rw[if_neg b,if_neg b]
    by_cases g:c=44
    ·rw[if_pos g,if_pos g]
    ·rw[if_neg g,if_neg g]
theorem E7z (B:Nat) (w0 w:World) (l p:LU8) (f inn d:Nat) (Q:Value) (its:List It) (hl:l.length<=1800000) (a9:its.length+p.length<=8000000) (Z:A5g .pairs p<=f+1) (h:SC B w0 w l p inn d Q its 0 false false)
 (V:∀(t:Nat) (w':World) (F:Value) (its':List It) (p':LU8),t<=f->A5g .pair p'<=t->its'.length+p'.length<=8000000->SC B w0 w' l p' inn d F its' 0 false false->Calls Tryz.prog 143 #[.pointer (some ⟨B,0,none⟩)] w' (B1i B w0 l inn d its' (rGo d t inn .pair p'))):
 Calls Tryz.prog 89 #[.pointer (some ⟨B,0,none⟩)] w (D3p B w0 l inn d its (rGo d (f+1) inn .pairs p)):=by
 have L:=hid (A2n B w0 w l p inn d _ its 0 false false (by omega) h);have a2:=A0c l;have b1:=h.at_;have H1:=hid V;have J:=(A0x p).length_le;cases K:A0s p with
 |nil=>
  rw[C7f K];rw[K]at L;clear h K V;go_enter Tryz.func89,Tryz.ntmps89
  go_wp2_with fail
  refine Calls.mono L.out ?_;rintro x w2 ⟨rfl,a⟩;have v:=hid a;clear a;go_wp2;go_ret2;exact⟨0,rfl,_,[],by rw[List.append_nil];exact v.out⟩
 |cons c q=>
  rw[C2k K];rw[K]at L J;have hq:q.length+1<=p.length:=J;have a7:c.toNat<256:=c.toNat_lt;obtain⟨U,Y⟩:∃U,(if c=125 then RV.ok 0 [] q else rGo d f inn (.pairsGo 1 []) (c::q))=U:=⟨_,rfl⟩;rw[Y];have S:=hid Y;have O:A5g (.pairsGo 1 []) (c::q)<=f:=by unfold A5g at Z ⊢;simp only[List.length_cons]at Z ⊢;omega
  have a4:its.length+(c::q).length<=8000000:=by simp only[List.length_cons];omega
  clear h K V Y J Z;go_enter Tryz.func89,Tryz.ntmps89
  go_wp2_with fail
  refine Calls.mono L.out ?_;rintro x w2 ⟨rfl,a⟩;have r:SC B w0 w2 l (c::q) inn d Q its 0 false false:=a;clear a;obtain⟨a0,hg⟩:=A3i r.suf;have k0:=A0a r.blk (show(A0e l (l.length-(c::q).length) inn d Q 0 false false)[0]? =some (.string (ofL l))from rfl);have k1:=A0a r.blk (show(A0e l (l.length-(c::q).length) inn d Q 0 false false)[1]? =some (.int .i64 ((l.length-(c::q).length:Nat):Int))from rfl);have f1:=A0b (j:=1) r.blk;have a8:(ofL l)[l.length-(c::q).length]'(by rw[a2];exact a0)=c:=(A1d l _ _).trans hg;have P:=hid (λn=>(r.drewN n).step);have M:=hid (λn=>r.drewN n);have a3:=r.at_;generalize l.length-(c::q).length=ps at*;clear hg r L;by_cases N:c=125
  ·have G:=S.out
   rw[if_pos N]at G;have G:=hid G;subst N;clear S;go_wp2;go_quiet (fail);go_wp2;go_ret2;rw[<-G.out];exact⟨rfl,_,by rw[List.append_nil];exact P.out _⟩
  ·have m:((c.toNat:Int)==125)=false:=bqF (by have:=A0k N;simp at this;omega)
   have G:=S.out;rw[if_neg N]at G;have G:=hid G;have a5:(c::q).length<=1800000:=by omega
   clear S N;have T:=hid O;clear O;go_wp2;go_quiet (fail);go_wp2
   go_loopw [5] (λn wr=>∃(k t:Nat) (i:List It) (p':LU8) (F:Value),n=.int .i64 (k:Int)/\k+p'.length<=(c::q).length+1/\Hid (SC B w0 wr l p' inn d F (its++i) 0 false false)/\Hid (rGo d t inn (.pairsGo k i) p'=U/\A5g (.pairsGo k i) p'<=t/\t<=f/\its.length+i.length+p'.length<=8000000)) (λ_ wr=>l.length-atOf wr B)
   case atStart=>exact⟨1,f,[],c::q,Q,rfl,by omega,hid (by rw[List.append_nil];exact M.out _),hid ⟨G.out,T.out,Nat.le_refl _,by simp;omega⟩⟩
   case round=>
    clear k0 k1 f1 P M;obtain⟨k,t,i,p',F,rfl,hk,X,I⟩:=hrel;cases t with
    |zero=>exact absurd I.2.1 (by unfold A5g;simp only;omega)
    |succ t=>
     have hA:=hid X.atOf;have a6:=X.at_;have A:A5g .pair p'<=t:=by have:=I.2.1;unfold A5g at this ⊢;simp only at this ⊢;omega
     have z:=hid (H1.out t _ F (its++i) p' (by have:=I.2.2.1;omega) A (by rw[List.length_append];exact I.2.2.2) X.out);have s:=hid (E7w d t inn .pair p');have C:=hid (B9w d t inn .pair p');have W:=I.1;rw[D3r]at W;have H:=hid W;clear W A;cases hr:rGo d t inn .pair p' with
     |wrong e q3=>
      rw[hr]at z H;clear hr s C
      go_wp2_with fail
      refine Calls.mono z.out ?_;rintro x w3 ⟨rfl,o,E,a⟩;have v:=hid a;clear a;go_wp2;go_ret2;rw[<-H.out];exact⟨0,rfl,o,i++E,by rw[<-List.append_assoc];exact v.out⟩
     |ended la=>
      rw[hr]at z H;clear hr s C
      go_wp2_with fail
      refine Calls.mono z.out ?_;rintro x w3 ⟨rfl,o,E,a⟩;have v:=hid a;clear a;go_wp2;go_ret2;rw[<-H.out];exact⟨0,rfl,o,i++E,by rw[<-List.append_assoc];exact v.out⟩
     |ok a1 new p3=>
      rw[hr]at z H s C;clear hr;have b0:new.length+p3.length<=0+p'.length:=s.out;have b2:p3.length<=p'.length:=List.IsSuffix.length_le C.out;clear s C
      go_wp2_with fail
      refine Calls.mono z.out ?_;rintro x w3 ⟨rfl,o,a⟩;have u:=hid (C1a B w0 w3 l p3 125 inn d o _ (by omega) a);have D:=(A0x p3).length_le;clear a;have g:=H.out
      have R:=hid (show∀b q,B1c 125 p3=.ok b q->q.length+1<=p3.length fromλb q m=>by
       unfold B1c at m;cases hy:A0s p3 with
       |nil=>rw[hy]at m;cases m
       |cons c q=>
        rw[hy]at m D;simp only at m;split at m
        ·cases m;exact D
        split at m
        ·cases m;exact D
        ·cases m)
      cases m:B1c 125 p3 with
      |wrong e q3=>
       rw[m]at u g;have y:=hid g;clear m g H R
       go_wp2_with fail
       refine Calls.mono u.out ?_;rintro x w4 ⟨rfl,a⟩;unfold F9w;have v:=hid a;clear a;go_wp2;go_ret2;rw[<-y.out];exact⟨k,rfl,o,i++new,by rw[<-List.append_assoc];exact v.out⟩
      |ended=>
       rw[m]at u g;have y:=hid g;clear m g H R
       go_wp2_with fail
       refine Calls.mono u.out ?_;rintro x w4 ⟨rfl,a⟩;unfold F9w;have v:=hid a;clear a;go_wp2;go_ret2;rw[<-y.out];exact⟨k,rfl,o,i++new,by rw[<-List.append_assoc];exact v.out⟩
      |ok b q3=>
       have b3:=R.out b q3 m;rw[m]at u g;clear m H R;cases b with
       |true=>
        have y:=hid g;clear g
        go_wp2_with fail
        refine Calls.mono u.out ?_;rintro x w4 ⟨rfl,a⟩;unfold E0b;have v:=hid a;clear a;go_wp2;go_ret2;rw[<-y.out];exact⟨rfl,o,by rw[<-List.append_assoc];exact v.out⟩
       |false=>
        have y:=hid g;clear g
        go_wp2_with fail
        refine Calls.mono u.out ?_;rintro x w4 ⟨rfl,a⟩;unfold E0b;have v:=hid a;clear a;go_wp2;exact⟨⟨k+1,t,i++new,q3,o,rfl,by omega,hid (by rw[<-List.append_assoc];exact v.out),hid ⟨y.out,by have:=I.2.1;unfold A5g at this ⊢;simp only at this ⊢;omega,by have:=I.2.2.1;omega,by have:=I.2.2.2;rw[List.length_append];omega⟩⟩,by rw[v.atOf,hA.out];have:=v.at_;omega⟩
end Go.Proofs.YtmkkibaacclhnaaGreatDoor
