/-
  Part Xfg.
-/
import Derived.Test.YtmkkibaacclhnaaGreatDoorXcd
import Derived.Test.YtmkkibaacclhnaaGreatDoorBgk
import Derived.Deep.DeepCutAuto
import Derived.Deep.RegionHeld3
namespace Go.Proofs.YtmkkibaacclhnaaGreatDoor
open Go.RowKit
set_option maxRecDepth 100000
set_option maxHeartbeats 16000000
theorem F7w (e:Int) (w:World):Calls Tryz.prog 10 #[.int .i64 e] w λr w'=>r=.returned (.int .i64 e)/\w'=w:=by
 go_enter Tryz.func10,Tryz.ntmps10;go_wp2;go_ret;exact⟨rfl,rfl⟩
theorem C9k (n:Nat) (g:n<9007199254740992) (w:World):
 Calls Tryz.prog 134 #[.int .i64 n] w λe w'=>e=.returned (.string (ofL (dgs n)))/\w'=w:=by
 induction n using Nat.strongRecOn generalizing w with
 |_ n ih=>
  have a:=E2n (n % 10) (by omega);by_cases h:n<10
  ·go_enter Tryz.func134,Tryz.ntmps134
   go_wp2;go_ret;refine⟨?_,rfl⟩;rw[A6a h,<-show n % 10=n from by omega,<-a,show n % 10 % 10=n % 10 from by omega];rfl
  ·have c:=ih (n/10) (by omega) (by omega)
   go_enter Tryz.func134,Tryz.ntmps134;have d:(ofL (dgs (n/10))).size<=20:=by rw[A0c];exact A2b _ (by omega)
   have f:(ofL [UInt8.ofNat (48+n % 10)]).size=1:=rfl
   go_wp2_with fail
   refine(c _).mono ?_;rintro e i ⟨rfl,rfl⟩;rw[a];have b:=hid (A9h h);clear a;generalize [UInt8.ofNat (48+n % 10)]=q at*;go_wp2;go_ret;refine⟨?_,rfl⟩;rw[b.out,<-A0j];rfl
theorem B7c (n:Nat) (d:n<=1000) (w:World):
 Calls Tryz.prog 133 #[.int .i64 (n:Int)] w λe w'=>e=.returned (.string (ofL (List.replicate n 48)))/\w'=w:=by
 go_enter Tryz.func133,Tryz.ntmps133;go_wp2
 go_loop [3,4] (λs i=>∃k:Nat,k<=n/\i=.int .i64 (k:Int)/\s=.string (ofL (List.replicate k 48))) (λ_ i=>n-(intOf i).toNat)
 case atStart=>exact⟨0,by omega,rfl,rfl⟩
 case round=>
  obtain⟨k,c,rfl,rfl⟩:=hrel;by_cases a:k<n
  ·have f:(ofL (List.replicate k 48)).size=k:=by rw[A0c];simp
   have b:ofL (List.replicate k 48)++(ByteArray.mk #[48])=ofL (List.replicate (k+1) 48):=by rw[List.replicate_succ',<-A0j];rfl
   go_wp2
   go_round
   case rel=>exact⟨k+1,by omega,by go_num,rfl⟩
   case measure=>simp[intOf];omega
  ·obtain rfl:k=n:=by omega
   go_wp2;go_ret;exact⟨rfl,rfl⟩
theorem C9m (l:LU8) (w:World) (M:l.length<=1000) (F:A4h l):
 Calls Tryz.prog 177 #[.string (ofL l)] w λe w'=>e=.returned (.string (ofL (upB l)))/\Fr (λ_=>False) w w':=by
 have I:=A0c l;have D:=λwx=>run_bytes_of_string (P:=Tryz.prog) wx 9 65 5 (ofL l) Tryz.underlying9 Tryz.underlying65 Tryz.underlying5
 go_enter Tryz.func177,Tryz.ntmps177;go_wp2
 have r:A7g (w.alloc (.cells (bytesRow (ofL l) (grownCap w l.length 0 5)) 5 ((bytesRow (ofL l) (grownCap w l.length 0 5)).size,(bytesRow (ofL l) (grownCap w l.length 0 5)).size+1))).drew w.heap.size l:=
  D2m w l _ _ _ (by simp[bytesRow,ofL])
 have v:=hid r;clear r D
 go_loopw [4] (λi wr=>∃j:Nat,j<=l.length/\i=.int .i64 ((j:Int)-1)/\Hid (A7g wr w.heap.size (l.take j++List.replicate (l.length-j) 48))/\Hid (upB l=upB (l.take j)++List.replicate (l.length-j) 48)/\Hid (Fr (λ_=>False) w wr)) (λi _=>(intOf i+1).toNat)
 case atStart=>
  refine⟨l.length,Nat.le_refl _,rfl,hid ?_,hid ?_,hid (((Fr.refl _ w).alloc _).drew)⟩
  ·rw[List.take_length,Nat.sub_self];simpa using v.out
  ·rw[List.take_length,Nat.sub_self];simp
 case round=>
  obtain⟨j,L,rfl,h,m,q⟩:=hrel;cases j with
  |zero=>
   have o:A7g wr w.heap.size (List.replicate l.length 48):=by simpa using h.out
   have hr:=A7g.back (cap:=grownCap w l.length 0 5) (n:=l.length) o (by simp);have d:=hid (show upB l=[49]++List.replicate l.length 48 by have:=m.out;simpa[F5h]using this);have N:(ofL (List.replicate l.length 48)).size=l.length:=by rw[A0c];simp
   have B:(ByteArray.mk #[49])++ofL (List.replicate l.length 48)=ofL ([49]++List.replicate l.length 48):=by apply ByteArray.ext;simp[ofL]
   clear h m o;generalize List.replicate l.length 48=z at*;go_wp2;go_ret;exact⟨by rw[d.out];exact congrArg (λt=>Ending.returned (Value.string t)) B,q.out⟩
  |succ j=>
   have u:j<l.length:=by omega
   have f:=List.take_succ_eq_append_getElem u;have s:=h.out j (by simp;omega)
   have k:(l.take (j+1)++List.replicate (l.length-(j+1)) 48)[j]'(by simp;omega)=l[j]:=by
    rw[List.getElem_append_left (by simp;omega)];simp
   rw[k]at s;obtain⟨G,H⟩:=s;obtain⟨J,K⟩:=(A6h _).1 (F _ (List.getElem_mem u))
   have a:∀c,(l.take (j+1)++List.replicate (l.length-(j+1)) 48).set j c=l.take j++c::List.replicate (l.length-(j+1)) 48:=by
    intro c;rw[f,List.append_assoc,List.set_append_right _ _ (by simp;omega)];simp[show min j l.length=j by omega]
   by_cases y:l[j].toNat<57
   ·have C:(UInt8.ofNat (l[j].toNat+1)).toNat=l[j].toNat+1:=UInt8.toNat_ofNat_of_lt' (by show _<256;omega)
    have b:=h.set j (UInt8.ofNat (l[j].toNat+1)) (a _).symm;rw[C,show((l[j].toNat+1:Nat):Int)=(l[j].toNat:Int)+1 from by omega]at b;have hr:=A7g.back (cap:=grownCap w l.length 0 5) (n:=l.length) b (by simp;omega)
    have d:Hid (upB l=l.take j++UInt8.ofNat (l[j].toNat+1)::List.replicate (l.length-(j+1)) 48):=by
     have:=m.out;rw[f,C6e _ _ y,List.append_assoc]at this;exact this
    have g:=hid (q.setCell (p:=⟨w.heap.size,j,none⟩) (.inr (Nat.le_refl _)) (.int .u8 ((l[j].toNat:Int)+1)));clear h m q k f a b;generalize l[j]=c at*;go_wp2;go_ret;exact⟨by rw[d.out];rfl,g.out⟩
   ·have E:l[j].toNat=57:=by omega
    have b:=hid (h.set j 48 (a _).symm)
    have A:=hid (show upB l=upB (l.take j)++List.replicate (l.length-j) 48 from by
     have:=m.out;rw[f,D2k _ _ y,List.append_assoc]at this;rw[this,show l.length-j=(l.length-(j+1))+1 by omega,List.replicate_succ]
     rfl)
    have x:Hid (A7g (wr.setCell ⟨w.heap.size,j,none⟩ (.int .u8 48)) w.heap.size (l.take j++List.replicate (l.length-j) 48)):=by
     rw[show l.length-j=(l.length-(j+1))+1 by omega,List.replicate_succ];exact b
    have g:=hid (q.setCell (p:=⟨w.heap.size,j,none⟩) (.inr (Nat.le_refl _)) (.int .u8 48));clear h m q k f a b y;generalize l[j]=c at*;go_wp2;go_roundw
    case rel=>exact⟨j,by omega,by go_num,x,A,g⟩
    case measure=>simp[intOf]
def G5d (ab be:Int) (ev:Bool):Bool:=(decide (ab<0)||(decide (ab=0)&&ev))&&(decide (0<be)||(decide (be=0)&&ev))
def F1r (A B n E Q:Nat) (ev:Bool):Bool:=
 G5d (A6d (A*2^(-((E:Int)-1074-1)).toNat) (B*(2*n+1)*2^((E:Int)-1074-1).toNat))
  (if n=4503599627370496/\1<Q then A6d (A*2^(-((E:Int)-1074-2)).toNat) (B*(4*n-1)*2^((E:Int)-1074-2).toNat)else A6d (A*2^(-((E:Int)-1074-1)).toNat) (B*(2*n-1)*2^((E:Int)-1074-1).toNat)) ev
def F5j (A B m:Nat):Bool:=F1r A B (A0w m).1 (A0w m).2 (m/4503599627370496) (decide (m % 2=0))
theorem A8d (a b:Nat):A6d a b= -1\/A6d a b=0\/A6d a b=1:=by
 unfold A6d;split
 ·exact .inl rfl
 ·split
  ·exact .inr (.inl rfl)
  ·exact .inr (.inr rfl)
theorem A5j (v:Value) (A B L:Nat) (N:Int) (n:Nat) (e:Int) (w:World) (d:N=(n:Int)) (c:L<=10000000) (g:n<18446744073709551616) (a: -5000<=e) (b:e<=5000) (f:A7b w v A B L):
 Calls Tryz.prog 206 #[v,.int .u64 N,.int .i64 e] w λr w'=>r=.returned (.int .i64 (A6d (A*2^(-e).toNat) (B*n*2^e.toNat)))/\Fr (λ_=>False) w w':=by
 subst d;exact C9h v A B L n e w c g a b f
theorem D8n (m:Nat) (a:m≠0) (b:m<9218868437227405312):(0<(A0w m).1/\(A0w m).1<9007199254740992)/\(A0w m).2<=2046:=by
 unfold A0w;split
 ·simp only;omega
 ·simp only;omega
theorem C3q (v:Value) (A B L m:Nat) (w:World) (V:L<=10000000) (Z:m≠0) (Y:m<9218868437227405312) (hf:A7b w v A B L):
 Calls Tryz.prog 179 #[v,.int .u64 (m:Int)] w λr w'=>r=.returned (.bool (F5j A B m))/\Fr (λ_=>False) w w':=by
 obtain⟨va,vb,xs,ys,rfl,z⟩:=hf;have U:=hid (show A7b w (.agg #[va,vb]) A B L from⟨va,vb,xs,ys,rfl,z⟩);have HM:=hid Y;have s:Int.tmod (m:Int) 2=((m % 2:Nat):Int):=by rw[Int.tmod_eq_emod_of_nonneg (by omega)];omega
 obtain⟨W,X⟩:=D8n m Z Y;have R:(m:Int)/4503599627370496=((m/4503599627370496:Nat):Int):=by omega
 have hQ:m/4503599627370496<=2047:=by omega
 clear z Y;obtain⟨n,T⟩:∃n,(A0w m).1=n:=⟨_,rfl⟩;obtain⟨E,S⟩:∃E,(A0w m).2=E:=⟨_,rfl⟩;rw[T]at W;rw[S]at X;obtain⟨Q,G⟩:∃Q,m/4503599627370496=Q:=⟨_,rfl⟩;have I:=hid (show F5j A B m=F1r A B n E Q (decide (m % 2=0))from by unfold F5j;rw[T,S,G]);rw[G]at R hQ;have a2:=hid R;have HN:=hid T;have HE:=hid S;clear T S G;go_enter Tryz.func179,Tryz.ntmps179
 go_wp2_with fail
 refine(B1z m _ (by have:=HM.out;omega)).mono ?_;rintro e w1 ⟨rfl,rfl⟩;rw[HN.out,HE.out];have M:=hid ((Fr.refl (λ_=>False) w).alloc (.cells #[va,vb] 228))
 go_wp2_with fail
 refine(A5j _ A B L _ (2*n+1) ((E:Int)-1074-1) _ (by omega) V (by omega) (by omega) (by omega) (U.fr M.out)).mono ?_;rintro r w2 ⟨rfl,C⟩;obtain⟨l,u⟩:∃l,A6d (A*2^(-((E:Int)-1074-1)).toNat) (B*(2*n+1)*2^((E:Int)-1074-1).toNat)=l:=⟨_,rfl⟩;have b: -1<=l/\l<=1:=by rw[<-u];rcases A8d _ _ with h|h|h<;>rw[h]<;>omega
 rw[u];have g:=(C.cell (p:=⟨w.heap.size,0,none⟩) (by simp) id).trans (A3d _ _ _ _);have i:=(C.cell (p:=⟨w.heap.size,1,none⟩) (by simp) id).trans (A3d _ _ _ _);simp only[List.getElem?_toArray,List.getElem?_cons_zero,List.getElem?_cons_succ]at g i;have J:=hid (M.trans C);clear C
 go_wp2_with fail
 refine(A5j _ A B L _ (2*n-1) ((E:Int)-1074-1) _ (by omega) V (by omega) (by omega) (by omega) (U.fr J.out)).mono ?_;rintro r w3 ⟨rfl,D⟩;have x:=(D.cell (p:=⟨w.heap.size,0,none⟩) (A3t g) id).trans g;have y:=(D.cell (p:=⟨w.heap.size,1,none⟩) (A3t i) id).trans i;have q:=hid (J.trans D);have t:=hid (show l= -1\/l=0\/l=1 by rw[<-u];exact A8d _ _);have o:=hid u;clear D u;by_cases O:n=4503599627370496/\1<Q
 ·have F:=hid O
  obtain⟨a0,a1⟩:=O;have P:decide ((1:Int)<(Q:Int))=true:=dcT (by omega);have H:((n:Int)==4503599627370496)=true:=beq_iff_eq.2 (by omega);clear a0 a1
  go_wp2_with fail
  refine(A5j _ A B L _ (4*n-1) ((E:Int)-1074-2) _ (by omega) V (by omega) (by omega) (by omega) (U.fr q.out)).mono ?_;rintro r w4 ⟨rfl,N⟩;have K:=hid (q.trans N);clear N x y;obtain⟨k,c⟩:∃k,A6d (A*2^(-((E:Int)-1074-2)).toNat) (B*(4*n-1)*2^((E:Int)-1074-2).toNat)=k:=⟨_,rfl⟩;have d:k= -1\/k=0\/k=1:=by rw[<-c];exact A8d _ _
  rw[c];have j:=hid c;clear c b g i;have b:l= -1\/l=0\/l=1:=t.out;rcases Nat.mod_two_eq_zero_or_one m with a|a
  ·have f:=hid (show(decide (m % 2=0))=true by rw[a];rfl)
   rw[a]at s;clear a;rcases b with rfl|rfl|rfl<;>rcases d with rfl|rfl|rfl
   all_goals
    go_wp2;go_ret;refine⟨?_,K.out⟩;rw[I.out,F1r,o.out,if_pos F.out,j.out,f.out];rfl
  ·have f:=hid (show(decide (m % 2=0))=false by rw[a];rfl)
   rw[a]at s;clear a;rcases b with rfl|rfl|rfl<;>rcases d with rfl|rfl|rfl
   all_goals
    go_wp2;go_ret;refine⟨?_,K.out⟩;rw[I.out,F1r,o.out,if_pos F.out,j.out,f.out];rfl
 ·have F:=hid O
  by_cases H:n=4503599627370496
  ·have P:decide ((1:Int)<(Q:Int))=false:=dcF (by have:=F.out;omega)
   have a3:((n:Int)==4503599627370496)=true:=beq_iff_eq.2 (by omega);clear O x y H;obtain⟨k,c⟩:∃k,A6d (A*2^(-((E:Int)-1074-1)).toNat) (B*(2*n-1)*2^((E:Int)-1074-1).toNat)=k:=⟨_,rfl⟩;have d:k= -1\/k=0\/k=1:=by rw[<-c];exact A8d _ _
   rw[c];have j:=hid c;clear c b g i;have b:l= -1\/l=0\/l=1:=t.out;rcases Nat.mod_two_eq_zero_or_one m with a|a
   ·have f:=hid (show(decide (m % 2=0))=true by rw[a];rfl)
    rw[a]at s;clear a;rcases b with rfl|rfl|rfl<;>rcases d with rfl|rfl|rfl
    all_goals
     go_wp2;go_ret;refine⟨?_,q.out⟩;rw[I.out,F1r,o.out,if_neg F.out,j.out,f.out];rfl
   ·have f:=hid (show(decide (m % 2=0))=false by rw[a];rfl)
    rw[a]at s;clear a;rcases b with rfl|rfl|rfl<;>rcases d with rfl|rfl|rfl
    all_goals
     go_wp2;go_ret;refine⟨?_,q.out⟩;rw[I.out,F1r,o.out,if_neg F.out,j.out,f.out];rfl
  ·have P:((n:Int)==4503599627370496)=false:=bqF (by omega)
   clear O x y H;obtain⟨k,c⟩:∃k,A6d (A*2^(-((E:Int)-1074-1)).toNat) (B*(2*n-1)*2^((E:Int)-1074-1).toNat)=k:=⟨_,rfl⟩;have d:k= -1\/k=0\/k=1:=by rw[<-c];exact A8d _ _
   rw[c];have j:=hid c;clear c b g i;have b:l= -1\/l=0\/l=1:=t.out;rcases Nat.mod_two_eq_zero_or_one m with a|a
   ·have f:=hid (show(decide (m % 2=0))=true by rw[a];rfl)
    rw[a]at s;clear a;rcases b with rfl|rfl|rfl<;>rcases d with rfl|rfl|rfl
    all_goals
     go_wp2;go_ret;refine⟨?_,q.out⟩;rw[I.out,F1r,o.out,if_neg F.out,j.out,f.out];rfl
   ·have f:=hid (show(decide (m % 2=0))=false by rw[a];rfl)
    rw[a]at s;clear a;rcases b with rfl|rfl|rfl<;>rcases d with rfl|rfl|rfl
    all_goals
     go_wp2;go_ret;refine⟨?_,q.out⟩;rw[I.out,F1r,o.out,if_neg F.out,j.out,f.out];rfl
def D2p (w:World) (xs ys:List Nat) (j:Nat) (v:Value) (wr:World):Prop:=
 ∃ws,v≠.slice none 0 0/\A3q wr v ws/\val ws=val xs*val (ys.drop j)/\ws.length<=xs.length+2*(ys.length-j)+3/\Fr (λ_=>False) w wr
theorem C0h (v u:Value) (xs ys:List Nat) (w:World) (a1:xs.length<=20000000) (a2:ys.length<=20000000) (p:A3q w v xs) (q:A3q w u ys):
 Calls Tryz.prog 209 #[v,u] w (B5b w (val xs*val ys) (xs.length+2*ys.length+3)):=by
 obtain⟨a,ca,rfl⟩:=A1e p;obtain⟨b,cb,rfl⟩:=A1e q;obtain⟨i0,V,F,G,H⟩:=info_parts Tryz.info27;have HA:=hid p;have n:=hid q;clear p q;go_enter Tryz.func209,Tryz.ntmps209;go_wp2
 have m:=hid (show D2p w xs ys ys.length (.slice (some ⟨w.heap.size,0,none⟩) 1 1) (w.alloc (.cells #[.int .u64 0] 27))from
  ⟨[0],by simp,⟨A1j (C0g w (.int .u64 0) 27),A1w.one (by omega)⟩,by rw[List.drop_length];simp[val],by simp,(Fr.refl _ _).alloc _⟩)
 go_loopw [5,6] (λout i wr=>∃j:Nat,j<=ys.length/\i=.int .i64 ((j:Int)-1)/\Hid (D2p w xs ys j out wr)) (λ_ i _=>(intOf i+1).toNat)
 case atStart=>exact⟨ys.length,Nat.le_refl _,rfl,m⟩
 case round=>
  clear m;obtain⟨j,hj,rfl,s⟩:=hrel;cases j with
  |zero=>
   go_wp2;go_ret;obtain⟨ws,c1,c2,c3,c4,c5⟩:=s.out;exact⟨_,ws,rfl,c1,c2,by rw[c3,List.drop_zero],by omega,c5⟩
  |succ j=>
   obtain⟨ws,c1,c2,c3,c4,c5⟩:=s.out;obtain⟨U,l,rfl⟩:=B8g c2 c1;obtain⟨gb,C,y⟩:=A5x (n.fr c5) j (by omega);subst C;have E:ys[j]<4294967296:=n.2 _ (List.getElem_mem (by omega));have K:=hid c2;have Z:=hid c3;have C5:=hid c5
   have f:∀w2,Fr (λ_=>False) w w2->w2.cell? ⟨gb,j,none⟩=some (.int .u64 (ys[j]:Nat)):=λw2 hF=>by
    obtain⟨g',B,t⟩:=A5x (n.fr hF) j (by omega);cases B;exact t
   have o:=hid f;have a0:=c5.size;have HZ:=hid (C0g wr (.int .u64 0) 27);clear s c1 c2 c3 c5 f
   go_wp2_with (first
    |(at_builtin;refine wpList_append_own _ rfl _ _ 226 rfl wr.heap.size 27 i0 (.int .u64 0) 1 8 Tryz.underlying226 V F G H rfl (by decide) _ _ _ rfl HZ.out ⟨U,0,none⟩ ws.length l (usB ws) rfl ?c0 ?c1 ?c2 ?c3 ?c4 ?c5 ?_)
    |go_in)
   case c0=>rw[B6j];omega
   case c1=>exact(K.1.alloc _).cells (g:=U) rfl
   case c2=>exact D2n
   case c3=>unfold maxLen;omega
   case c4=>omega
   case c5=>simp
   intro X Y c d _
   have a3:X≠.slice none 0 0:=by
    rw[Nat.add_comm]at c;obtain⟨g',M,rfl⟩:=A4g c;simp
   have r:=hid (show A3q Y X (0::ws)from⟨by rw[List.length_cons,Nat.add_comm];exact A1j c,by
    intro x D;rcases List.mem_cons.1 D with rfl|D
    ·omega
    ·exact K.2 x D⟩)
   have h:=hid (((C5.alloc (.cells #[.int .u64 0] 27)).trans' ((Fr.refl (λi=>i=wr.heap.size) (wr.alloc (.cells #[.int .u64 0] 27))).grown d (λk hk=>.inl (by simpa[Value.ownBlock]using hk.symm))) (λi V=>.inr (by omega))));have z:=o.out Y h.out;clear c d y
   go_wp2_with fail
   refine(B0e _ xs ys[j] 0 _ (by omega) E (by omega) (HA.fr h.out)).mono ?_;rintro e w4 ⟨v4,I,rfl,N,O,d3,P⟩;have D1:=hid N;have D2:=hid O;have L:=hid P;clear N O P z
   go_wp2_with fail
   refine(C6h _ _ (0::ws) I _ (by simp;omega) (by omega) (r.fr L.out) D1.out).mono ?_;rintro e w5 ⟨v5,J,rfl,W,Q,R,S,T⟩
   have HI:=hid (show D2p w xs ys j v5 w5 from by
    refine⟨J,W,Q,?_,?_,(h.trans L.out).trans T⟩
    ·have A:val (ys.drop j)=ys[j]+4294967296*val (ys.drop (j+1)):=by rw[List.drop_eq_getElem_cons (by omega)];rfl
     have h1:val (0::ws)=4294967296*(val xs*val (ys.drop (j+1))):=by rw[val,Z.out,Nat.zero_add]
     rw[R,h1,D2.out,A,Nat.mul_add,Nat.add_zero,Nat.mul_comm ys[j],Nat.mul_left_comm 4294967296];exact Nat.add_comm _ _
    ·simp only[List.length_cons]at S
     omega)
   clear W Q R S T;go_wp2;go_roundw
   case rel=>exact⟨j,by omega,by go_num,HI⟩
   case measure=>simp[intOf]
theorem B5c (m:Nat) (a:m<9218868437227405312):(A0w m).1<9007199254740992/\(A0w m).2<=2046:=by
 unfold A0w;split
 ·simp only;omega
 ·simp only;omega
structure NearC (w0 w:World) (b1 b2:Nat) (x0 x1 y0 y1:Value):Prop where
 fr:Fr (λ_=>False) w0 w
 c0:w.cell? ⟨b1,0,none⟩=some x0
 c1:w.cell? ⟨b1,1,none⟩=some x1
 d0:w.cell? ⟨b2,0,none⟩=some y0
 d1:w.cell? ⟨b2,1,none⟩=some y1
theorem NearC.next {w0 w w':World} {b c:Nat} {d e f g:Value} (h:NearC w0 w b c d e f g) (a:Fr (λ_=>False) w w'):NearC w0 w' b c d e f g:=
 ⟨h.fr.trans a,(a.cell (p:=⟨b,0,none⟩) (A3t h.c0) id).trans h.c0,(a.cell (p:=⟨b,1,none⟩) (A3t h.c1) id).trans h.c1,(a.cell (p:=⟨c,0,none⟩) (A3t h.d0) id).trans h.d0,(a.cell (p:=⟨c,1,none⟩) (A3t h.d1) id).trans h.d1⟩
theorem C3r (v u:Value) (A B C D L m:Nat) (w:World) (hL:L<=1000000) (hm:m<9218868437227405312) (hf:A7b w v A B L) (hg:A7b w u C D L):
 Calls Tryz.prog 180 #[v,u,.int .u64 (m:Int)] w λr w'=>r=.returned (.int .i64 (-(A6d ((A*D+C*B)*2^(-(((A0w m).2:Int)-1074)).toNat) (B*D*(2*(A0w m).1)*2^(((A0w m).2:Int)-1074).toNat))))/\Fr (λ_=>False) w w':=by
 obtain⟨va,vb,xs,ys,rfl,X,Y,a3,a4,a5,a6⟩:=hf;obtain⟨ua,ub,f,c,rfl,Z,b2,b3,b4,b5,b6⟩:=hg;obtain⟨g,k,rfl⟩:=A1e X;obtain⟨p2,l,rfl⟩:=A1e Y;obtain⟨i,o,rfl⟩:=A1e Z;obtain⟨j,p,rfl⟩:=A1e b2;have A1:=hid X;have A2:=hid Y;have B1:=hid Z;have B2:=hid b2;have HM:=hid hm;clear X Y Z b2;go_enter Tryz.func180,Tryz.ntmps180
 go_wp2_with fail
 refine(B1z m _ (by have:=HM.out;omega)).mono ?_;rintro e w1 ⟨rfl,rfl⟩;clear hm
 have d:NearC w ((w.alloc (.cells #[.slice g xs.length k,.slice p2 ys.length l] 228)).alloc (.cells #[.slice i f.length o,.slice j c.length p] 228)) w.heap.size (w.heap.size+1) (.slice g xs.length k) (.slice p2 ys.length l) (.slice i f.length o) (.slice j c.length p):=by
  have h1:((w.alloc (.cells #[.slice g xs.length k,.slice p2 ys.length l] 228)).alloc (.cells #[.slice i f.length o,.slice j c.length p] 228)).heap[w.heap.size]? =some (.cells #[.slice g xs.length k,.slice p2 ys.length l] 228 (0,0)):=(Below.heap_alloc _ _ _ (by simp)).trans (heap_alloc_new w _)
  have h2:((w.alloc (.cells #[.slice g xs.length k,.slice p2 ys.length l] 228)).alloc (.cells #[.slice i f.length o,.slice j c.length p] 228)).heap[w.heap.size+1]? =some (.cells #[.slice i f.length o,.slice j c.length p] 228 (0,0)):=by
   have:=heap_alloc_new (w.alloc (.cells #[.slice g xs.length k,.slice p2 ys.length l] 228)) (.cells #[.slice i f.length o,.slice j c.length p] 228);rwa[World.size_alloc]at this
  exact⟨((Fr.refl _ w).alloc _).alloc _,A4r h1,A4s h1,A4r h2,A4s h2⟩
 generalize a0:(w.alloc (.cells #[.slice g xs.length k,.slice p2 ys.length l] 228)).alloc (.cells #[.slice i f.length o,.slice j c.length p] 228)=W0 at*;clear a0;have n0:=d.c0;have n1:=d.c1;have n2:=d.d0;have n3:=d.d1;have HX:=hid (λ(wx:World) (hx:Fr (λ_=>False) w wx)=>C0h (.slice g xs.length k) (.slice j c.length p) xs c wx (by omega) (by omega) (A1.fr hx) (B2.fr hx));have HY:=hid (λ(wx:World) (hx:Fr (λ_=>False) w wx)=>C0h (.slice i f.length o) (.slice p2 ys.length l) f ys wx (by omega) (by omega) (B1.fr hx) (A2.fr hx));have HZ:=hid (λ(wx:World) (hx:Fr (λ_=>False) w wx)=>C0h (.slice p2 ys.length l) (.slice j c.length p) ys c wx (by omega) (by omega) (A2.fr hx) (B2.fr hx));have x:=hid d;clear d
 go_wp2_with fail
 go_cut [9] (λxv wc=>∃ws,Hid (A3q wc xv ws)/\Hid (val ws=A*D+C*B)/\ws.length<=5000000/\Hid (NearC w wc w.heap.size (w.heap.size+1) (.slice g xs.length k) (.slice p2 ys.length l) (.slice i f.length o) (.slice j c.length p)))
 case first=>
  have b:=hid (x.next ((Fr.refl (λ_=>False) W0).drew));have T:=hid (show xs.length+2*c.length+3<=4000000 by omega);have U:=hid (show f.length+2*ys.length+3<=4000000 by omega);have N:=hid (show(4000000:Nat)<=1000000000 by omega)
  go_region_held3 (λw'=>w'.cell? ⟨w.heap.size,0,none⟩=some (.slice g xs.length k)/\w'.cell? ⟨w.heap.size,1,none⟩=some (.slice p2 ys.length l)/\w'.cell? ⟨w.heap.size+1,0,none⟩=some (.slice i f.length o)/\w'.cell? ⟨w.heap.size+1,1,none⟩=some (.slice j c.length p)) (first|go_keep|exact⟨b.c0,b.c1,b.d0,b.d1⟩) (first
   |(go_at_call_of 209 (Value.slice g xs.length k);refine Calls.mono (HX.out _ b.fr) ?_;rintro r wX ⟨vX,I,rfl,nX,x1,x2,x3,x4⟩;have X1:=hid x1;have X2:=hid x2;have X4:=hid x4;have V:=hid (Nat.le_trans x3 T.out);have a:=hid (b.next x4);have a9:=a.c0;have b0:=a.c1;have b7:=a.d0;have b8:=a.d1;clear b;have b:=a;clear a;clear x1 x2 x3 x4 nX)
   |(go_at_call_of 209 (Value.slice i f.length o);refine Calls.mono (HY.out _ b.fr) ?_;rintro r wY ⟨vY,J,rfl,nY,y1,y2,y3,y4⟩;have Y1:=hid y1;have Y2:=hid y2;have Y4:=hid y4;have W:=hid (Nat.le_trans y3 U.out);have a:=hid (b.next y4);have b9:=a.c0;have c2:=a.c1;have c3:=a.d0;have c4:=a.d1;clear b;have b:=a;clear a;clear y1 y2 y3 y4 nY)
   |(go_at_call 210;(first|refine Calls.mono (C6h _ _ I J _ (Nat.le_trans V.out N.out) (Nat.le_trans W.out N.out) (X1.fr Y4.out) Y1.out) ?_|refine Calls.mono (C6h _ _ I J _ (Nat.le_trans V.out N.out) (Nat.le_trans W.out N.out) X1.out (Y1.fr X4.out)) ?_);rintro r wZ ⟨vZ,a7,rfl,nZ,s,K,O,t⟩;have Z1:=hid s;have Z2:=hid K;have Z3:=hid O;have a:=hid (b.next t);have c5:=a.c0;have c6:=a.c1;have c7:=a.d0;have c8:=a.d1;clear b;have b:=a;clear a;clear s K O t nZ))
  all_goals
   go_wp2;go_meet;refine⟨a7,Z1,hid ?_,?_,b⟩
   ·rw[Z2.out,X2.out,Y2.out,a3,a4,b3,b4]
   ·have:=Z3.out
    have:=V.out;have:=W.out;omega
 case rest=>
  obtain⟨ws,hB,hV,hl,F⟩:=hcut;have n0:=F.c0;have n1:=F.c1;have n2:=F.d0;have n3:=F.d1;have G:=hid F.fr;clear HX HY x;obtain⟨px,qx,rfl⟩:=A1e hB.out;have hb:=B5c m HM.out;obtain⟨n,hn⟩:∃n,(A0w m).1=n:=⟨_,rfl⟩;obtain⟨E,hE⟩:∃E,(A0w m).2=E:=⟨_,rfl⟩;rw[hn,hE]at hb ⊢;have y:=hid (And.intro hn hE);clear hn hE
  go_wp2_with fail
  refine(HZ.out wc G.out).mono ?_;rintro e w5 ⟨v5,H,rfl,n5,s,K,O,t⟩;obtain⟨p5,q5,rfl⟩:=B8g s n5
  have S:=hid (show A7b w5 (.agg #[.slice px ws.length qx,.slice (some ⟨p5,0,none⟩) H.length q5]) (A*D+C*B) (B*D) 5000000 from
   ⟨_,_,ws,H,rfl,hB.fr t,s,hV.out,by rw[K,a4,b4],hl,by omega⟩)
  have Q:=hid (G.trans t);clear s K O t n5 n0 n1 n2 n3
  go_wp2_with fail
  refine(A5j _ (A*D+C*B) (B*D) 5000000 _ (2*n) ((E:Int)-1074) _ (by omega) (by omega) (by omega) (by omega) (by omega) (S.fr ((Fr.refl _ _).alloc _))).mono ?_;rintro e w6 ⟨rfl,z⟩;have R:=hid ((Q.alloc _).trans z);obtain⟨M,q⟩:∃M,A6d ((A*D+C*B)*2^(-((E:Int)-1074)).toNat) (B*D*(2*n)*2^((E:Int)-1074).toNat)=M:=⟨_,rfl⟩;have a8: -1<=M/\M<=1:=by rw[<-q];rcases A8d ((A*D+C*B)*2^(-((E:Int)-1074)).toNat) (B*D*(2*n)*2^((E:Int)-1074).toNat)with h|h|h<;>rw[h]<;>omega
  rw[q];have P:=hid q;clear z q;go_wp2;go_ret;refine⟨?_,R.out⟩;rw[y.1,y.2,P.out];rfl
theorem E5g (a b:Nat):A6d a b<0↔a<b:=by
 unfold A6d;split
 ·rename_i h;simp[h]
 ·rename_i h;split<;>simp[h]
theorem D2q (a b:Nat):A6d a b=0↔a=b:=by
 unfold A6d;split
 ·rename_i h;constructor
  ·intro c;omega
  ·intro c;omega
 ·split
  ·rename_i c;simp[c]
  ·rename_i c;simp[c]
theorem C6j (a b:Nat):0<A6d a b↔b<a:=by
 unfold A6d;split
 ·rename_i h;constructor
  ·intro c;omega
  ·intro c;omega
 ·split
  ·rename_i h c;constructor
   ·intro d;omega
   ·intro d;omega
  ·constructor
   ·intro _;omega
   ·intro _;omega
theorem B0f (a b t:Nat) (e:0<t):A6d (a*t) (b*t)=A6d a b:=by
 unfold A6d;have c:a*t<b*t↔a<b:=Nat.mul_lt_mul_right e;have d:a*t=b*t↔a=b:=Nat.mul_left_inj (by omega);simp only[c,d]
theorem B2p (A C E s:Nat) (e:Int) (a:e=(E:Int)-(s:Int)):A6d (A*2^(-e).toNat) (C*2^e.toNat)=A6d (A*p2 s) (C*p2 E):=by
 show A6d (A*p2 (-e).toNat) (C*p2 e.toNat)=_
 rcases Nat.le_total E s with h|h
 ·rw[show e.toNat=0 by omega,show p2 0=1 from rfl,Nat.mul_one,<-B0f _ _ (p2 E) (A2y E),Nat.mul_assoc,<-A3x,show(-e).toNat+E=s by omega]
 ·rw[show(-e).toNat=0 by omega,show p2 0=1 from rfl,Nat.mul_one,<-B0f _ _ (p2 s) (A2y s),Nat.mul_assoc,<-A3x,show e.toNat+s=E by omega]
theorem D2r:p2 1075=2*p2 1074:=A8j 1074
theorem F7x:p2 1076=4*p2 1074:=by
 rw[show p2 1076=2*p2 1075 from A8j 1075,D2r,<-Nat.mul_assoc]
theorem F1s (A B m:Nat) (e:m≠0):F5j A B m=true↔Rnd (A*p2 1074) B m:=by
 have r:=B1a m;have q:=B1n m;have i:=C4u m e;have p:=B4h m;have u:=C4w m e
 have o:((A0w m).1=4503599627370496/\1<m/4503599627370496)↔((A0w m).1=4503599627370496/\0<(A0w m).2):=by
  unfold A0w;by_cases h:m/4503599627370496=0
  ·rw[if_pos h];simp only;omega
  ·rw[if_neg h];simp only;omega
 have v:0<(A0w m).1:=by
  obtain⟨s,t⟩:=B1m m;omega
 unfold B2w at i;unfold F5j F1r G5d;generalize (A0w m).1=n at*;generalize (A0w m).2=E at*;rw[B2p A (B*(2*n+1)) E 1075 _ (by omega)]
 have j:B*(2*n+1)*p2 E=mid m*B:=by
  rw[p,r,q,Nat.mul_comm B,Nat.mul_right_comm,Nat.add_mul,Nat.one_mul,Nat.mul_assoc 2]
 have l:A*p2 1075=2*(A*p2 1074):=by rw[D2r,Nat.mul_left_comm]
 have g:A*p2 1076=4*(A*p2 1074):=by rw[F7x,Nat.mul_left_comm]
 have k:(if n=4503599627370496/\1<m/4503599627370496 then A6d (A*2^(-((E:Int)-1074-2)).toNat) (B*(4*n-1)*2^((E:Int)-1074-2).toNat)else A6d (A*2^(-((E:Int)-1074-1)).toNat) (B*(2*n-1)*2^((E:Int)-1074-1).toNat))=A6d (2*(A*p2 1074)) (mid (m-1)*B):=by
  by_cases f:n=4503599627370496/\0<E
  ·rw[if_pos (o.2 f),B2p A (B*(4*n-1)) E 1076 _ (by omega),g]
   rw[if_pos f,Nat.one_mul]at i
   have d:2*mid (m-1)=(4*n-1)*p2 E:=by
    rw[Nat.sub_mul,Nat.one_mul];have:4*n*p2 E=4*(n*p2 E):=Nat.mul_assoc ..;have:=A2y E;generalize n*p2 E=z at*;generalize p2 E=y at*;omega
   rw[Nat.mul_comm B,Nat.mul_right_comm,<-d,<-B0f (2*(A*p2 1074)) (mid (m-1)*B) 2 (by omega)];generalize A*p2 1074=x;rw[show 4*x=2*x*2 by omega,show 2*mid (m-1)*B=mid (m-1)*B*2 by rw[Nat.mul_assoc,Nat.mul_comm]]
  ·rw[if_neg (λh=>f (o.1 h)),B2p A (B*(2*n-1)) E 1075 _ (by omega),l]
   rw[if_neg f]at i
   have d:mid (m-1)=(2*n-1)*p2 E:=by
    rw[Nat.sub_mul,Nat.one_mul];have:2*n*p2 E=2*(n*p2 E):=Nat.mul_assoc ..;generalize n*p2 E=z at*;generalize p2 E=y at*;omega
   rw[d,Nat.mul_comm B,Nat.mul_right_comm]
 rw[k,j,l];unfold Rnd;simp only[Bool.and_eq_true,Bool.or_eq_true,decide_eq_true_eq,E5g,D2q,C6j];generalize 2*(A*p2 1074)=x;generalize mid m*B=y;generalize mid (m-1)*B=z;constructor
 ·rintro⟨a,b⟩
  refine⟨?_,?_⟩
  ·rcases b with b|⟨b,c⟩
   ·exact .inr (.inl b)
   ·exact .inr (.inr ⟨b.symm,c⟩)
  ·exact a
 ·rintro⟨a,b⟩
  refine⟨b,?_⟩;rcases a with a|a|⟨a,c⟩
  ·exact absurd a e
  ·exact .inl a
  ·exact .inr ⟨a.symm,c⟩
theorem F7y (v:Value) (A B L m n E:Nat) (N e:Int) (w:World) (i:m<9218868437227405312) (b:(A0w m).1=n) (a:(A0w m).2=E) (f:N=(n:Int)) (j:e=(E:Int)-1074) (d:L<=10000000) (h:A7b w v A B L):
 Calls Tryz.prog 206 #[v,.int .u64 N,.int .i64 e] w λr w'=>r=.returned (.int .i64 (A6d (A*p2 1074) (B*V m)))/\Fr (λ_=>False) w w':=by
 have g:=B5c m i;rw[b,a]at g;refine(A5j v A B L N n e w f d (by omega) (by omega) (by omega) h).mono ?_;rintro r w' ⟨rfl,c⟩;refine⟨?_,c⟩;rw[B2p A (B*n) E 1074 e (by omega),B1a m,b,a,Nat.mul_assoc]
def A8u (m:Nat) (X:Int):Prop:=p10 X.toNat*p2 1074<=p10 (-X).toNat*V m
theorem E5h (a b:Nat):A6d a b<=0↔a<=b:=by
 have d:=C6j a b;constructor
 ·intro h
  rcases Nat.lt_or_ge b a with c|c
  ·have:=d.2 c;omega
  ·exact c
 ·intro h
  rcases Int.lt_or_le 0 (A6d a b)with c|c
  ·have:=d.1 c;omega
  ·exact c
def CLe (m c:Nat) (X:Int):Prop:=c*p10 X.toNat*p2 1074<=p10 (-X).toNat*V m
theorem CLe.shift (m c:Nat) (X:Int):CLe m c (X+1)↔CLe m (10*c) X:=by
 unfold CLe;rcases Int.lt_or_le X 0 with h|h
 ·rw[show(X+1).toNat=0 by omega,show X.toNat=0 by omega,show(-X).toNat=(-(X+1)).toNat+1 by omega,A1z,show p10 0=1 from rfl,Nat.mul_one,Nat.mul_one]
  generalize p10 (-(X+1)).toNat=p;rw[Nat.mul_assoc 10 c,Nat.mul_comm p 10,Nat.mul_assoc 10 p];generalize c*p2 1074=a;generalize p*V m=b;omega
 ·rw[show(X+1).toNat=X.toNat+1 by omega,show(-(X+1)).toNat=0 by omega,show(-X).toNat=0 by omega,A1z]
  rw[show c*(p10 X.toNat*10)=10*c*p10 X.toNat from by rw[Nat.mul_comm 10 c,Nat.mul_assoc,Nat.mul_comm 10]]
theorem CLe.zero (m:Nat) (X:Int):CLe m 0 X:=by unfold CLe;rw[Nat.zero_mul,Nat.zero_mul];exact Nat.zero_le _
theorem D2s (m:Nat) (X:Int):A8u m X↔CLe m 1 X:=by unfold A8u CLe;rw[Nat.one_mul]
theorem E5i (k:Nat) (h:k<9):(ByteArray.mk #[49,50,51,52,53,54,55,56,57]).extract k (k+1)=ofL [UInt8.ofNat (48+(k+1))]:=by
 have:k=0\/k=1\/k=2\/k=3\/k=4\/k=5\/k=6\/k=7\/k=8:=by omega
 rcases this with rfl|rfl|rfl|rfl|rfl|rfl|rfl|rfl|rfl<;>rfl
theorem D2t (l:LU8) (k:Nat) (h:k<10):num (dv (l++[UInt8.ofNat (48+k)]))=num (dv l)*10+k:=by
 rw[A4d]
 show num (dv l++[(UInt8.ofNat (48+k)).toNat-48])=_
 rw[A4x,A3s k h];omega
theorem D5f {l:LU8} (h:A4h l) (k:Nat) (b:k<10):A4h (l++[UInt8.ofNat (48+k)]):=
 h.append (by intro c a;rw[List.mem_singleton]at a;rw[a];exact D1r k b)
def F1t (m:Nat) (l:LU8) (i:Nat) (X:Int):Prop:=A4h l/\l.length=i/\CLe m (num (dv l)) X/\¬CLe m (num (dv l)+1) X
theorem F1t.start {m:Nat} {x:Int} (h:¬A8u m (x+1)):F1t m [] 0 (x-((0:Nat):Int)+1):=by
 have e:x-((0:Nat):Int)+1=x+1:=by omega
 rw[e];exact⟨A4k,rfl,CLe.zero m _,mt (D2s m (x+1)).2 h⟩
def F1u (s:Nat):Prop:=s=0\/s=1\/s=2\/s=4\/s=8\/s=16\/s=32\/s=64\/s=128\/s=256\/s=512
def D8p (m:Nat) (x:Int) (s:Nat):Prop:=A8u m x/\¬A8u m (x+(if s=0 then 1 else 2*(s:Int)))
theorem D8p.next {m:Nat} {x:Int} {s:Nat} (h:D8p m x s) (d:F1u s) (b:s≠0):(A8u m (x+s)->D8p m (x+s) (s/2))/\(¬A8u m (x+s)->D8p m x (s/2)):=by
 obtain⟨e,c⟩:=h;rw[if_neg b]at c
 have a:(if s/2=0 then(1:Int)else 2*((s/2:Nat):Int))=s:=by
  unfold F1u at d;rcases d with h|h|h|h|h|h|h|h|h|h|h<;>subst h<;>first|(exact absurd rfl b)|rfl
 refine⟨λh=>⟨h,?_⟩,λh=>⟨e,?_⟩⟩
 ·rw[a,show x+(s:Int)+s=x+2*s by omega];exact c
 ·rw[a];exact h
theorem F1u.half {s:Nat} (h:F1u s):F1u (s/2):=by
 unfold F1u at*;omega
theorem F1v (D:Nat) (h:D % 10≠0):(dgs D).getLast? ≠some 48:=by
 have d:=A3s (D % 10) (by omega)
 have a:UInt8.ofNat (48+D % 10)≠48:=by
  intro e;have:=congrArg UInt8.toNat e;rw[d]at this;have c:(48:UInt8).toNat=48:=rfl;omega
 by_cases b:D<10
 ·rw[A6a b]
  rw[show D % 10=D by omega]at a;simpa using a
 ·rw[A9h b]
  simpa using a
theorem F5k:p10 17=100000000000000000:=by decide+kernel
end Go.Proofs.YtmkkibaacclhnaaGreatDoor
