/-
  Part Xfg.
-/
import Derived.Test.YtmkkibaacclhnaaGreatDoorXcd
import Derived.Test.YtmkkibaacclhnaaGreatDoorBgk
import Derived.Deep.DeepCutAuto
import Derived.Deep.RegionHeld3
namespace Go.Proofs.YtmkkibaacclhnaaGreatDoor
open Go.RowKit
set_option maxRecDepth 100000
set_option maxHeartbeats 16000000
theorem F7w (e:Int) (w:World):Calls Tryz.prog 10 #[.int .i64 e] w λr w'=>r=.returned (.int .i64 e)/\w'=w:=by
 go_enter Tryz.func10,Tryz.ntmps10;go_wp2;go_ret;exact⟨rfl,rfl⟩
theorem C9k (n:Nat) (g:n<9007199254740992) (w:World):
 Calls Tryz.prog 134 #[.int .i64 n] w λe w'=>e=.returned (.string (ofL (dgs n)))/\w'=w:=by
 induction n using Nat.strongRecOn generalizing w with
 |_ n ih=>
  have a:=E2n (n % 10) (by omega);by_cases h:n<10
  ·go_enter Tryz.func134,Tryz.ntmps134
   go_wp2;go_ret;refine⟨?_,rfl⟩;rw[A6a h,<-show n % 10=n from by omega,<-a,show n % 10 % 10=n % 10 from by omega];rfl
  ·have b:=ih (n/10) (by omega) (by omega)
   go_enter Tryz.func134,Tryz.ntmps134;have d:(ofL (dgs (n/10))).size<=20:=by rw[A0c];exact A2b _ (by omega)
   have f:(ofL [UInt8.ofNat (48+n % 10)]).size=1:=rfl
   go_wp2_with fail
   refine(b _).mono ?_;rintro e i ⟨rfl,rfl⟩;rw[a];have c:=hid (A9h h);clear a;generalize [UInt8.ofNat (48+n % 10)]=q at*;go_wp2;go_ret;refine⟨?_,rfl⟩;rw[c.out,<-A0j];rfl
theorem B7c (n:Nat) (d:n<=1000) (w:World):
 Calls Tryz.prog 133 #[.int .i64 (n:Int)] w λe w'=>e=.returned (.string (ofL (List.replicate n 48)))/\w'=w:=by
 go_enter Tryz.func133,Tryz.ntmps133;go_wp2
 go_loop [3,4] (λs i=>∃k:Nat,k<=n/\i=.int .i64 (k:Int)/\s=.string (ofL (List.replicate k 48))) (λ_ i=>n-(intOf i).toNat)
 case atStart=>exact⟨0,by omega,rfl,rfl⟩
 case round=>
  obtain⟨k,c,rfl,rfl⟩:=hrel;by_cases a:k<n
  ·have f:(ofL (List.replicate k 48)).size=k:=by rw[A0c];simp
   have b:ofL (List.replicate k 48)++(ByteArray.mk #[48])=ofL (List.replicate (k+1) 48):=by rw[List.replicate_succ',<-A0j];rfl
   go_wp2
   go_round
   case rel=>exact⟨k+1,by omega,by go_num,rfl⟩
   case measure=>simp[intOf];omega
  ·obtain rfl:k=n:=by omega
   go_wp2;go_ret;exact⟨rfl,rfl⟩
theorem C9m (l:LU8) (w:World) (M:l.length<=1000) (E:A4h l):
 Calls Tryz.prog 177 #[.string (ofL l)] w λe w'=>e=.returned (.string (ofL (upB l)))/\Fr (λ_=>False) w w':=by
 have H:=A0c l;have C:=λwx=>run_bytes_of_string (P:=Tryz.prog) wx 9 65 5 (ofL l) Tryz.underlying9 Tryz.underlying65 Tryz.underlying5
 go_enter Tryz.func177,Tryz.ntmps177;go_wp2
 have q:A7g (w.alloc (.cells (bytesRow (ofL l) (grownCap w l.length 0 5)) 5 ((bytesRow (ofL l) (grownCap w l.length 0 5)).size,(bytesRow (ofL l) (grownCap w l.length 0 5)).size+1))).drew w.heap.size l:=
  D2m w l _ _ _ (by simp[bytesRow,ofL])
 have v:=hid q;clear q C
 go_loopw [4] (λi wr=>∃j:Nat,j<=l.length/\i=.int .i64 ((j:Int)-1)/\Hid (A7g wr w.heap.size (l.take j++List.replicate (l.length-j) 48))/\Hid (upB l=upB (l.take j)++List.replicate (l.length-j) 48)/\Hid (Fr (λ_=>False) w wr)) (λi _=>(intOf i+1).toNat)
 case atStart=>
  refine⟨l.length,Nat.le_refl _,rfl,hid ?_,hid ?_,hid (((Fr.refl _ w).alloc _).drew)⟩
  ·rw[List.take_length,Nat.sub_self];simpa using v.out
  ·rw[List.take_length,Nat.sub_self];simp
 case round=>
  obtain⟨j,L,rfl,g,m,s⟩:=hrel;cases j with
  |zero=>
   have o:A7g wr w.heap.size (List.replicate l.length 48):=by simpa using g.out
   have hr:=A7g.back (cap:=grownCap w l.length 0 5) (n:=l.length) o (by simp);have f:=hid (show upB l=[49]++List.replicate l.length 48 by have:=m.out;simpa[F5h]using this);have K:(ofL (List.replicate l.length 48)).size=l.length:=by rw[A0c];simp
   have D:(ByteArray.mk #[49])++ofL (List.replicate l.length 48)=ofL ([49]++List.replicate l.length 48):=by apply ByteArray.ext;simp[ofL]
   clear g m o;generalize List.replicate l.length 48=z at*;go_wp2;go_ret;exact⟨by rw[f.out];exact congrArg (λt=>Ending.returned (Value.string t)) D,s.out⟩
  |succ j=>
   have u:j<l.length:=by omega
   have d:=List.take_succ_eq_append_getElem u;have r:=g.out j (by simp;omega)
   have k:(l.take (j+1)++List.replicate (l.length-(j+1)) 48)[j]'(by simp;omega)=l[j]:=by
    rw[List.getElem_append_left (by simp;omega)];simp
   rw[k]at r;obtain⟨G,F⟩:=r;obtain⟨J,N⟩:=(A6h _).1 (E _ (List.getElem_mem u))
   have a:∀c,(l.take (j+1)++List.replicate (l.length-(j+1)) 48).set j c=l.take j++c::List.replicate (l.length-(j+1)) 48:=by
    intro c;rw[d,List.append_assoc,List.set_append_right _ _ (by simp;omega)];simp[show min j l.length=j by omega]
   by_cases x:l[j].toNat<57
   ·have B:(UInt8.ofNat (l[j].toNat+1)).toNat=l[j].toNat+1:=UInt8.toNat_ofNat_of_lt' (by show _<256;omega)
    have b:=g.set j (UInt8.ofNat (l[j].toNat+1)) (a _).symm;rw[B,show((l[j].toNat+1:Nat):Int)=(l[j].toNat:Int)+1 from by omega]at b;have hr:=A7g.back (cap:=grownCap w l.length 0 5) (n:=l.length) b (by simp;omega)
    have f:Hid (upB l=l.take j++UInt8.ofNat (l[j].toNat+1)::List.replicate (l.length-(j+1)) 48):=by
     have:=m.out;rw[d,C6e _ _ x,List.append_assoc]at this;exact this
    have h:=hid (s.setCell (p:=⟨w.heap.size,j,none⟩) (.inr (Nat.le_refl _)) (.int .u8 ((l[j].toNat:Int)+1)));clear g m s k d a b;generalize l[j]=c at*;go_wp2;go_ret;exact⟨by rw[f.out];rfl,h.out⟩
   ·have I:l[j].toNat=57:=by omega
    have b:=hid (g.set j 48 (a _).symm)
    have A:=hid (show upB l=upB (l.take j)++List.replicate (l.length-j) 48 from by
     have:=m.out;rw[d,D2k _ _ x,List.append_assoc]at this;rw[this,show l.length-j=(l.length-(j+1))+1 by omega,List.replicate_succ]
     rfl)
    have y:Hid (A7g (wr.setCell ⟨w.heap.size,j,none⟩ (.int .u8 48)) w.heap.size (l.take j++List.replicate (l.length-j) 48)):=by
     rw[show l.length-j=(l.length-(j+1))+1 by omega,List.replicate_succ];exact b
    have h:=hid (s.setCell (p:=⟨w.heap.size,j,none⟩) (.inr (Nat.le_refl _)) (.int .u8 48));clear g m s k d a b x;generalize l[j]=c at*;go_wp2;go_roundw
    case rel=>exact⟨j,by omega,by go_num,y,A,h⟩
    case measure=>simp[intOf]
def G5d (ab be:Int) (ev:Bool):Bool:=(decide (ab<0)||(decide (ab=0)&&ev))&&(decide (0<be)||(decide (be=0)&&ev))
def F1r (A B n E Q:Nat) (ev:Bool):Bool:=
 G5d (A6d (A*2^(-((E:Int)-1074-1)).toNat) (B*(2*n+1)*2^((E:Int)-1074-1).toNat))
  (if n=4503599627370496/\1<Q then A6d (A*2^(-((E:Int)-1074-2)).toNat) (B*(4*n-1)*2^((E:Int)-1074-2).toNat)else A6d (A*2^(-((E:Int)-1074-1)).toNat) (B*(2*n-1)*2^((E:Int)-1074-1).toNat)) ev
def F5j (A B m:Nat):Bool:=F1r A B (A0w m).1 (A0w m).2 (m/4503599627370496) (decide (m % 2=0))
theorem A8d (a b:Nat):A6d a b= -1\/A6d a b=0\/A6d a b=1:=by
 unfold A6d;split
 ·exact .inl rfl
 ·split
  ·exact .inr (.inl rfl)
  ·exact .inr (.inr rfl)
theorem A5j (v:Value) (A B L:Nat) (N:Int) (n:Nat) (e:Int) (w:World) (b:N=(n:Int)) (f:L<=10000000) (c:n<18446744073709551616) (d: -5000<=e) (g:e<=5000) (a:A7b w v A B L):
 Calls Tryz.prog 206 #[v,.int .u64 N,.int .i64 e] w λr w'=>r=.returned (.int .i64 (A6d (A*2^(-e).toNat) (B*n*2^e.toNat)))/\Fr (λ_=>False) w w':=by
 subst b;exact C9h v A B L n e w f c d g a
theorem D8n (m:Nat) (b:m≠0) (a:m<9218868437227405312):(0<(A0w m).1/\(A0w m).1<9007199254740992)/\(A0w m).2<=2046:=by
 unfold A0w;split
 ·simp only;omega
 ·simp only;omega
theorem C3q (v:Value) (A B L m:Nat) (w:World) (hL:L<=10000000) (X:m≠0) (hm:m<9218868437227405312) (hf:A7b w v A B L):
 Calls Tryz.prog 179 #[v,.int .u64 (m:Int)] w λr w'=>r=.returned (.bool (F5j A B m))/\Fr (λ_=>False) w w':=by
 obtain⟨U,vb,xs,ys,rfl,t⟩:=hf;have HF:=hid (show A7b w (.agg #[U,vb]) A B L from⟨U,vb,xs,ys,rfl,t⟩);have HM:=hid hm;have q:Int.tmod (m:Int) 2=((m % 2:Nat):Int):=by rw[Int.tmod_eq_emod_of_nonneg (by omega)];omega
 obtain⟨V,Z⟩:=D8n m X hm;have O:(m:Int)/4503599627370496=((m/4503599627370496:Nat):Int):=by omega
 have hQ:m/4503599627370496<=2047:=by omega
 clear t hm;obtain⟨n,S⟩:∃n,(A0w m).1=n:=⟨_,rfl⟩;obtain⟨E,T⟩:∃E,(A0w m).2=E:=⟨_,rfl⟩;rw[S]at V;rw[T]at Z;obtain⟨Q,H⟩:∃Q,m/4503599627370496=Q:=⟨_,rfl⟩;have I:=hid (show F5j A B m=F1r A B n E Q (decide (m % 2=0))from by unfold F5j;rw[S,T,H]);rw[H]at O hQ;have a1:=hid O;have HN:=hid S;have HE:=hid T;clear S T H;go_enter Tryz.func179,Tryz.ntmps179
 go_wp2_with fail
 refine(B1z m _ (by have:=HM.out;omega)).mono ?_;rintro e w1 ⟨rfl,rfl⟩;rw[HN.out,HE.out];have R:=hid ((Fr.refl (λ_=>False) w).alloc (.cells #[U,vb] 228))
 go_wp2_with fail
 refine(A5j _ A B L _ (2*n+1) ((E:Int)-1074-1) _ (by omega) hL (by omega) (by omega) (by omega) (HF.fr R.out)).mono ?_;rintro r w2 ⟨rfl,D⟩;obtain⟨l,u⟩:∃l,A6d (A*2^(-((E:Int)-1074-1)).toNat) (B*(2*n+1)*2^((E:Int)-1074-1).toNat)=l:=⟨_,rfl⟩;have b: -1<=l/\l<=1:=by rw[<-u];rcases A8d _ _ with h|h|h<;>rw[h]<;>omega
 rw[u];have g:=(D.cell (p:=⟨w.heap.size,0,none⟩) (by simp) id).trans (A3d _ _ _ _);have i:=(D.cell (p:=⟨w.heap.size,1,none⟩) (by simp) id).trans (A3d _ _ _ _);simp only[List.getElem?_toArray,List.getElem?_cons_zero,List.getElem?_cons_succ]at g i;have N:=hid (R.trans D);clear D
 go_wp2_with fail
 refine(A5j _ A B L _ (2*n-1) ((E:Int)-1074-1) _ (by omega) hL (by omega) (by omega) (by omega) (HF.fr N.out)).mono ?_;rintro r w3 ⟨rfl,C⟩;have y:=(C.cell (p:=⟨w.heap.size,0,none⟩) (A3t g) id).trans g;have z:=(C.cell (p:=⟨w.heap.size,1,none⟩) (A3t i) id).trans i;have o:=hid (N.trans C);have x:=hid (show l= -1\/l=0\/l=1 by rw[<-u];exact A8d _ _);have s:=hid u;clear C u;by_cases J:n=4503599627370496/\1<Q
 ·have F:=hid J
  obtain⟨W,Y⟩:=J;have K:decide ((1:Int)<(Q:Int))=true:=dcT (by omega);have G:((n:Int)==4503599627370496)=true:=beq_iff_eq.2 (by omega);clear W Y
  go_wp2_with fail
  refine(A5j _ A B L _ (4*n-1) ((E:Int)-1074-2) _ (by omega) hL (by omega) (by omega) (by omega) (HF.fr o.out)).mono ?_;rintro r w4 ⟨rfl,P⟩;have M:=hid (o.trans P);clear P y z;obtain⟨k,c⟩:∃k,A6d (A*2^(-((E:Int)-1074-2)).toNat) (B*(4*n-1)*2^((E:Int)-1074-2).toNat)=k:=⟨_,rfl⟩;have d:k= -1\/k=0\/k=1:=by rw[<-c];exact A8d _ _
  rw[c];have j:=hid c;clear c b g i;have b:l= -1\/l=0\/l=1:=x.out;rcases Nat.mod_two_eq_zero_or_one m with a|a
  ·have f:=hid (show(decide (m % 2=0))=true by rw[a];rfl)
   rw[a]at q;clear a;rcases b with rfl|rfl|rfl<;>rcases d with rfl|rfl|rfl
   all_goals
    go_wp2;go_ret;refine⟨?_,M.out⟩;rw[I.out,F1r,s.out,if_pos F.out,j.out,f.out];rfl
  ·have f:=hid (show(decide (m % 2=0))=false by rw[a];rfl)
   rw[a]at q;clear a;rcases b with rfl|rfl|rfl<;>rcases d with rfl|rfl|rfl
   all_goals
    go_wp2;go_ret;refine⟨?_,M.out⟩;rw[I.out,F1r,s.out,if_pos F.out,j.out,f.out];rfl
 ·have F:=hid J
  by_cases G:n=4503599627370496
  ·have K:decide ((1:Int)<(Q:Int))=false:=dcF (by have:=F.out;omega)
   have a0:((n:Int)==4503599627370496)=true:=beq_iff_eq.2 (by omega);clear J y z G;obtain⟨k,c⟩:∃k,A6d (A*2^(-((E:Int)-1074-1)).toNat) (B*(2*n-1)*2^((E:Int)-1074-1).toNat)=k:=⟨_,rfl⟩;have d:k= -1\/k=0\/k=1:=by rw[<-c];exact A8d _ _
   rw[c];have j:=hid c;clear c b g i;have b:l= -1\/l=0\/l=1:=x.out;rcases Nat.mod_two_eq_zero_or_one m with a|a
   ·have f:=hid (show(decide (m % 2=0))=true by rw[a];rfl)
    rw[a]at q;clear a;rcases b with rfl|rfl|rfl<;>rcases d with rfl|rfl|rfl
    all_goals
     go_wp2;go_ret;refine⟨?_,o.out⟩;rw[I.out,F1r,s.out,if_neg F.out,j.out,f.out];rfl
   ·have f:=hid (show(decide (m % 2=0))=false by rw[a];rfl)
    rw[a]at q;clear a;rcases b with rfl|rfl|rfl<;>rcases d with rfl|rfl|rfl
    all_goals
     go_wp2;go_ret;refine⟨?_,o.out⟩;rw[I.out,F1r,s.out,if_neg F.out,j.out,f.out];rfl
  ·have K:((n:Int)==4503599627370496)=false:=bqF (by omega)
   clear J y z G;obtain⟨k,c⟩:∃k,A6d (A*2^(-((E:Int)-1074-1)).toNat) (B*(2*n-1)*2^((E:Int)-1074-1).toNat)=k:=⟨_,rfl⟩;have d:k= -1\/k=0\/k=1:=by rw[<-c];exact A8d _ _
   rw[c];have j:=hid c;clear c b g i;have b:l= -1\/l=0\/l=1:=x.out;rcases Nat.mod_two_eq_zero_or_one m with a|a
   ·have f:=hid (show(decide (m % 2=0))=true by rw[a];rfl)
    rw[a]at q;clear a;rcases b with rfl|rfl|rfl<;>rcases d with rfl|rfl|rfl
    all_goals
     go_wp2;go_ret;refine⟨?_,o.out⟩;rw[I.out,F1r,s.out,if_neg F.out,j.out,f.out];rfl
   ·have f:=hid (show(decide (m % 2=0))=false by rw[a];rfl)
    rw[a]at q;clear a;rcases b with rfl|rfl|rfl<;>rcases d with rfl|rfl|rfl
    all_goals
     go_wp2;go_ret;refine⟨?_,o.out⟩;rw[I.out,F1r,s.out,if_neg F.out,j.out,f.out];rfl
def D2p (w:World) (xs ys:List Nat) (j:Nat) (v:Value) (wr:World):Prop:=
 ∃ws,v≠.slice none 0 0/\A3q wr v ws/\val ws=val xs*val (ys.drop j)/\ws.length<=xs.length+2*(ys.length-j)+3/\Fr (λ_=>False) w wr
theorem C0h (v u:Value) (xs ys:List Nat) (w:World) (a2:xs.length<=20000000) (a0:ys.length<=20000000) (A:A3q w v xs) (n:A3q w u ys):
 Calls Tryz.prog 209 #[v,u] w (B5b w (val xs*val ys) (xs.length+2*ys.length+3)):=by
 obtain⟨a,ca,rfl⟩:=A1e A;obtain⟨b,cb,rfl⟩:=A1e n;obtain⟨i0,R,s,t,E⟩:=info_parts Tryz.info27;have HA:=hid A;have J:=hid n;clear A n;go_enter Tryz.func209,Tryz.ntmps209;go_wp2
 have m:=hid (show D2p w xs ys ys.length (.slice (some ⟨w.heap.size,0,none⟩) 1 1) (w.alloc (.cells #[.int .u64 0] 27))from
  ⟨[0],by simp,⟨A1j (C0g w (.int .u64 0) 27),A1w.one (by omega)⟩,by rw[List.drop_length];simp[val],by simp,(Fr.refl _ _).alloc _⟩)
 go_loopw [5,6] (λout i wr=>∃j:Nat,j<=ys.length/\i=.int .i64 ((j:Int)-1)/\Hid (D2p w xs ys j out wr)) (λ_ i _=>(intOf i+1).toNat)
 case atStart=>exact⟨ys.length,Nat.le_refl _,rfl,m⟩
 case round=>
  clear m;obtain⟨j,hj,rfl,C⟩:=hrel;cases j with
  |zero=>
   go_wp2;go_ret;obtain⟨ws,c1,c2,c3,c4,c5⟩:=C.out;exact⟨_,ws,rfl,c1,c2,by rw[c3,List.drop_zero],by omega,c5⟩
  |succ j=>
   obtain⟨ws,c1,c2,c3,c4,c5⟩:=C.out;obtain⟨N,l,rfl⟩:=B8g c2 c1;obtain⟨gb,I,r⟩:=A5x (J.fr c5) j (by omega);subst I;have y:ys[j]<4294967296:=J.2 _ (List.getElem_mem (by omega));have T:=hid c2;have C3:=hid c3;have Z:=hid c5
   have f:∀w2,Fr (λ_=>False) w w2->w2.cell? ⟨gb,j,none⟩=some (.int .u64 (ys[j]:Nat)):=λw2 hF=>by
    obtain⟨g',D,B⟩:=A5x (J.fr hF) j (by omega);cases D;exact B
   have o:=hid f;have a3:=c5.size;have HZ:=hid (C0g wr (.int .u64 0) 27);clear C c1 c2 c3 c5 f
   go_wp2_with (first
    |(at_builtin;refine wpList_append_own _ rfl _ _ 226 rfl wr.heap.size 27 i0 (.int .u64 0) 1 8 Tryz.underlying226 R s t E rfl (by decide) _ _ _ rfl HZ.out ⟨N,0,none⟩ ws.length l (usB ws) rfl ?c0 ?c1 ?c2 ?c3 ?c4 ?c5 ?_)
    |go_in)
   case c0=>rw[B6j];omega
   case c1=>exact(T.1.alloc _).cells (g:=N) rfl
   case c2=>exact D2n
   case c3=>unfold maxLen;omega
   case c4=>omega
   case c5=>simp
   intro O U c d _
   have a1:O≠.slice none 0 0:=by
    rw[Nat.add_comm]at c;obtain⟨g',L,rfl⟩:=A4g c;simp
   have z:=hid (show A3q U O (0::ws)from⟨by rw[List.length_cons,Nat.add_comm];exact A1j c,by
    intro x p;rcases List.mem_cons.1 p with rfl|p
    ·omega
    ·exact T.2 x p⟩)
   have h:=hid (((Z.alloc (.cells #[.int .u64 0] 27)).trans' ((Fr.refl (λi=>i=wr.heap.size) (wr.alloc (.cells #[.int .u64 0] 27))).grown d (λk hk=>.inl (by simpa[Value.ownBlock]using hk.symm))) (λi R=>.inr (by omega))));have q:=o.out U h.out;clear c d r
   go_wp2_with fail
   refine(B0e _ xs ys[j] 0 _ (by omega) y (by omega) (HA.fr h.out)).mono ?_;rintro e w4 ⟨v4,G,rfl,Q,Y,d3,P⟩;have D1:=hid Q;have D2:=hid Y;have V:=hid P;clear Q Y P q
   go_wp2_with fail
   refine(C6h _ _ (0::ws) G _ (by simp;omega) (by omega) (z.fr V.out) D1.out).mono ?_;rintro e w5 ⟨v5,F,rfl,M,X,S,K,W⟩
   have HI:=hid (show D2p w xs ys j v5 w5 from by
    refine⟨F,M,X,?_,?_,(h.trans V.out).trans W⟩
    ·have H:val (ys.drop j)=ys[j]+4294967296*val (ys.drop (j+1)):=by rw[List.drop_eq_getElem_cons (by omega)];rfl
     have h1:val (0::ws)=4294967296*(val xs*val (ys.drop (j+1))):=by rw[val,C3.out,Nat.zero_add]
     rw[S,h1,D2.out,H,Nat.mul_add,Nat.add_zero,Nat.mul_comm ys[j],Nat.mul_left_comm 4294967296];exact Nat.add_comm _ _
    ·simp only[List.length_cons]at K
     omega)
   clear M X S K W;go_wp2;go_roundw
   case rel=>exact⟨j,by omega,by go_num,HI⟩
   case measure=>simp[intOf]
theorem B5c (m:Nat) (a:m<9218868437227405312):(A0w m).1<9007199254740992/\(A0w m).2<=2046:=by
 unfold A0w;split
 ·simp only;omega
 ·simp only;omega
structure NearC (w0 w:World) (b1 b2:Nat) (x0 x1 y0 y1:Value):Prop where
 fr:Fr (λ_=>False) w0 w
 c0:w.cell? ⟨b1,0,none⟩=some x0
 c1:w.cell? ⟨b1,1,none⟩=some x1
 d0:w.cell? ⟨b2,0,none⟩=some y0
 d1:w.cell? ⟨b2,1,none⟩=some y1
theorem NearC.next {w0 w w':World} {b c:Nat} {d g e f:Value} (h:NearC w0 w b c d g e f) (a:Fr (λ_=>False) w w'):NearC w0 w' b c d g e f:=
 ⟨h.fr.trans a,(a.cell (p:=⟨b,0,none⟩) (A3t h.c0) id).trans h.c0,(a.cell (p:=⟨b,1,none⟩) (A3t h.c1) id).trans h.c1,(a.cell (p:=⟨c,0,none⟩) (A3t h.d0) id).trans h.d0,(a.cell (p:=⟨c,1,none⟩) (A3t h.d1) id).trans h.d1⟩
theorem C3r (v u:Value) (A B C D L m:Nat) (w:World) (hL:L<=1000000) (hm:m<9218868437227405312) (hf:A7b w v A B L) (hg:A7b w u C D L):
 Calls Tryz.prog 180 #[v,u,.int .u64 (m:Int)] w λr w'=>r=.returned (.int .i64 (-(A6d ((A*D+C*B)*2^(-(((A0w m).2:Int)-1074)).toNat) (B*D*(2*(A0w m).1)*2^(((A0w m).2:Int)-1074).toNat))))/\Fr (λ_=>False) w w':=by
 obtain⟨va,vb,xs,ys,rfl,a1,X,a3,a4,a5,a6⟩:=hf;obtain⟨ua,ub,d,c,rfl,T,R,b3,b4,b5,b6⟩:=hg;obtain⟨j,p,rfl⟩:=A1e a1;obtain⟨p2,o,rfl⟩:=A1e X;obtain⟨l,i,rfl⟩:=A1e T;obtain⟨k,g,rfl⟩:=A1e R;have A1:=hid a1;have A2:=hid X;have B1:=hid T;have B2:=hid R;have HM:=hid hm;clear a1 X T R;go_enter Tryz.func180,Tryz.ntmps180
 go_wp2_with fail
 refine(B1z m _ (by have:=HM.out;omega)).mono ?_;rintro e w1 ⟨rfl,rfl⟩;clear hm
 have f:NearC w ((w.alloc (.cells #[.slice j xs.length p,.slice p2 ys.length o] 228)).alloc (.cells #[.slice l d.length i,.slice k c.length g] 228)) w.heap.size (w.heap.size+1) (.slice j xs.length p) (.slice p2 ys.length o) (.slice l d.length i) (.slice k c.length g):=by
  have h1:((w.alloc (.cells #[.slice j xs.length p,.slice p2 ys.length o] 228)).alloc (.cells #[.slice l d.length i,.slice k c.length g] 228)).heap[w.heap.size]? =some (.cells #[.slice j xs.length p,.slice p2 ys.length o] 228 (0,0)):=(Below.heap_alloc _ _ _ (by simp)).trans (heap_alloc_new w _)
  have h2:((w.alloc (.cells #[.slice j xs.length p,.slice p2 ys.length o] 228)).alloc (.cells #[.slice l d.length i,.slice k c.length g] 228)).heap[w.heap.size+1]? =some (.cells #[.slice l d.length i,.slice k c.length g] 228 (0,0)):=by
   have:=heap_alloc_new (w.alloc (.cells #[.slice j xs.length p,.slice p2 ys.length o] 228)) (.cells #[.slice l d.length i,.slice k c.length g] 228);rwa[World.size_alloc]at this
  exact⟨((Fr.refl _ w).alloc _).alloc _,A4r h1,A4s h1,A4r h2,A4s h2⟩
 generalize U:(w.alloc (.cells #[.slice j xs.length p,.slice p2 ys.length o] 228)).alloc (.cells #[.slice l d.length i,.slice k c.length g] 228)=W0 at*;clear U;have n0:=f.c0;have n1:=f.c1;have n2:=f.d0;have n3:=f.d1;have HX:=hid (λ(wx:World) (hx:Fr (λ_=>False) w wx)=>C0h (.slice j xs.length p) (.slice k c.length g) xs c wx (by omega) (by omega) (A1.fr hx) (B2.fr hx));have HY:=hid (λ(wx:World) (hx:Fr (λ_=>False) w wx)=>C0h (.slice l d.length i) (.slice p2 ys.length o) d ys wx (by omega) (by omega) (B1.fr hx) (A2.fr hx));have HZ:=hid (λ(wx:World) (hx:Fr (λ_=>False) w wx)=>C0h (.slice p2 ys.length o) (.slice k c.length g) ys c wx (by omega) (by omega) (A2.fr hx) (B2.fr hx));have z:=hid f;clear f
 go_wp2_with fail
 go_cut [9] (λxv wc=>∃ws,Hid (A3q wc xv ws)/\Hid (val ws=A*D+C*B)/\ws.length<=5000000/\Hid (NearC w wc w.heap.size (w.heap.size+1) (.slice j xs.length p) (.slice p2 ys.length o) (.slice l d.length i) (.slice k c.length g)))
 case first=>
  have b:=hid (z.next ((Fr.refl (λ_=>False) W0).drew));have a7:=hid (show xs.length+2*c.length+3<=4000000 by omega);have a8:=hid (show d.length+2*ys.length+3<=4000000 by omega);have O:=hid (show(4000000:Nat)<=1000000000 by omega)
  go_region_held3 (λw'=>w'.cell? ⟨w.heap.size,0,none⟩=some (.slice j xs.length p)/\w'.cell? ⟨w.heap.size,1,none⟩=some (.slice p2 ys.length o)/\w'.cell? ⟨w.heap.size+1,0,none⟩=some (.slice l d.length i)/\w'.cell? ⟨w.heap.size+1,1,none⟩=some (.slice k c.length g)) (first|go_keep|exact⟨b.c0,b.c1,b.d0,b.d1⟩) (first
   |(go_at_call_of 209 (Value.slice j xs.length p);refine Calls.mono (HX.out _ b.fr) ?_;rintro r wX ⟨vX,x,rfl,nX,x1,x2,x3,x4⟩;have X1:=hid x1;have X2:=hid x2;have X4:=hid x4;have P:=hid (Nat.le_trans x3 a7.out);have a:=hid (b.next x4);have c4:=a.c0;have c8:=a.c1;have b0:=a.d0;have c9:=a.d1;clear b;have b:=a;clear a;clear x1 x2 x3 x4 nX)
   |(go_at_call_of 209 (Value.slice l d.length i);refine Calls.mono (HY.out _ b.fr) ?_;rintro r wY ⟨vY,H,rfl,nY,y1,y2,y3,Z⟩;have Y1:=hid y1;have Y2:=hid y2;have Y4:=hid Z;have Y3:=hid (Nat.le_trans y3 a8.out);have a:=hid (b.next Z);have c2:=a.c0;have c5:=a.c1;have c6:=a.d0;have c3:=a.d1;clear b;have b:=a;clear a;clear y1 y2 y3 Z nY)
   |(go_at_call 210;(first|refine Calls.mono (C6h _ _ x H _ (Nat.le_trans P.out O.out) (Nat.le_trans Y3.out O.out) (X1.fr Y4.out) Y1.out) ?_|refine Calls.mono (C6h _ _ x H _ (Nat.le_trans P.out O.out) (Nat.le_trans Y3.out O.out) X1.out (Y1.fr X4.out)) ?_);rintro r wZ ⟨vZ,Q,rfl,nZ,s,G,M,t⟩;have Z1:=hid s;have Z2:=hid G;have Z3:=hid M;have a:=hid (b.next t);have b9:=a.c0;have b8:=a.c1;have c7:=a.d0;have a9:=a.d1;clear b;have b:=a;clear a;clear s G M t nZ))
  all_goals
   go_wp2;go_meet;refine⟨Q,Z1,hid ?_,?_,b⟩
   ·rw[Z2.out,X2.out,Y2.out,a3,a4,b3,b4]
   ·have:=Z3.out
    have:=P.out;have:=Y3.out;omega
 case rest=>
  obtain⟨ws,hB,hV,hl,y⟩:=hcut;have n0:=y.c0;have n1:=y.c1;have n2:=y.d0;have n3:=y.d1;have F:=hid y.fr;clear HX HY z;obtain⟨px,qx,rfl⟩:=A1e hB.out;have hb:=B5c m HM.out;obtain⟨n,S⟩:∃n,(A0w m).1=n:=⟨_,rfl⟩;obtain⟨E,hE⟩:∃E,(A0w m).2=E:=⟨_,rfl⟩;rw[S,hE]at hb ⊢;have J:=hid (And.intro S hE);clear S hE
  go_wp2_with fail
  refine(HZ.out wc F.out).mono ?_;rintro e w5 ⟨v5,I,rfl,n5,s,G,M,t⟩;obtain⟨p5,q5,rfl⟩:=B8g s n5
  have V:=hid (show A7b w5 (.agg #[.slice px ws.length qx,.slice (some ⟨p5,0,none⟩) I.length q5]) (A*D+C*B) (B*D) 5000000 from
   ⟨_,_,ws,I,rfl,hB.fr t,s,hV.out,by rw[G,a4,b4],hl,by omega⟩)
  have Y:=hid (F.trans t);clear s G M t n5 n0 n1 n2 n3
  go_wp2_with fail
  refine(A5j _ (A*D+C*B) (B*D) 5000000 _ (2*n) ((E:Int)-1074) _ (by omega) (by omega) (by omega) (by omega) (by omega) (V.fr ((Fr.refl _ _).alloc _))).mono ?_;rintro e w6 ⟨rfl,K⟩;have W:=hid ((Y.alloc _).trans K);obtain⟨N,q⟩:∃N,A6d ((A*D+C*B)*2^(-((E:Int)-1074)).toNat) (B*D*(2*n)*2^((E:Int)-1074).toNat)=N:=⟨_,rfl⟩;have b7: -1<=N/\N<=1:=by rw[<-q];rcases A8d ((A*D+C*B)*2^(-((E:Int)-1074)).toNat) (B*D*(2*n)*2^((E:Int)-1074).toNat)with h|h|h<;>rw[h]<;>omega
  rw[q];have a0:=hid q;clear K q;go_wp2;go_ret;refine⟨?_,W.out⟩;rw[J.1,J.2,a0.out];rfl
theorem E5g (a b:Nat):A6d a b<0↔a<b:=by
 unfold A6d;split
 ·rename_i h;simp[h]
 ·rename_i h;split<;>simp[h]
theorem D2q (a b:Nat):A6d a b=0↔a=b:=by
 unfold A6d;split
 ·rename_i h;constructor
  ·intro c;omega
  ·intro c;omega
 ·split
  ·rename_i c;simp[c]
  ·rename_i c;simp[c]
theorem C6j (a b:Nat):0<A6d a b↔b<a:=by
 unfold A6d;split
 ·rename_i h;constructor
  ·intro c;omega
  ·intro c;omega
 ·split
  ·rename_i h c;constructor
   ·intro d;omega
   ·intro d;omega
  ·constructor
   ·intro _;omega
   ·intro _;omega
theorem B0f (a b t:Nat) (c:0<t):A6d (a*t) (b*t)=A6d a b:=by
 unfold A6d;have d:a*t<b*t↔a<b:=Nat.mul_lt_mul_right c;have e:a*t=b*t↔a=b:=Nat.mul_left_inj (by omega);simp only[d,e]
theorem B2p (A C E s:Nat) (e:Int) (a:e=(E:Int)-(s:Int)):A6d (A*2^(-e).toNat) (C*2^e.toNat)=A6d (A*p2 s) (C*p2 E):=by
 show A6d (A*p2 (-e).toNat) (C*p2 e.toNat)=_
 rcases Nat.le_total E s with h|h
 ·rw[show e.toNat=0 by omega,show p2 0=1 from rfl,Nat.mul_one,<-B0f _ _ (p2 E) (A2y E),Nat.mul_assoc,<-A3x,show(-e).toNat+E=s by omega]
 ·rw[show(-e).toNat=0 by omega,show p2 0=1 from rfl,Nat.mul_one,<-B0f _ _ (p2 s) (A2y s),Nat.mul_assoc,<-A3x,show e.toNat+s=E by omega]
theorem D2r:p2 1075=2*p2 1074:=A8j 1074
theorem F7x:p2 1076=4*p2 1074:=by
 rw[show p2 1076=2*p2 1075 from A8j 1075,D2r,<-Nat.mul_assoc]
theorem F1s (A B m:Nat) (e:m≠0):F5j A B m=true↔Rnd (A*p2 1074) B m:=by
 have p:=B1a m;have q:=B1n m;have j:=C4u m e;have r:=B4h m;have v:=C4w m e
 have l:((A0w m).1=4503599627370496/\1<m/4503599627370496)↔((A0w m).1=4503599627370496/\0<(A0w m).2):=by
  unfold A0w;by_cases h:m/4503599627370496=0
  ·rw[if_pos h];simp only;omega
  ·rw[if_neg h];simp only;omega
 have t:0<(A0w m).1:=by
  obtain⟨u,s⟩:=B1m m;omega
 unfold B2w at j;unfold F5j F1r G5d;generalize (A0w m).1=n at*;generalize (A0w m).2=E at*;rw[B2p A (B*(2*n+1)) E 1075 _ (by omega)]
 have g:B*(2*n+1)*p2 E=mid m*B:=by
  rw[r,p,q,Nat.mul_comm B,Nat.mul_right_comm,Nat.add_mul,Nat.one_mul,Nat.mul_assoc 2]
 have o:A*p2 1075=2*(A*p2 1074):=by rw[D2r,Nat.mul_left_comm]
 have k:A*p2 1076=4*(A*p2 1074):=by rw[F7x,Nat.mul_left_comm]
 have i:(if n=4503599627370496/\1<m/4503599627370496 then A6d (A*2^(-((E:Int)-1074-2)).toNat) (B*(4*n-1)*2^((E:Int)-1074-2).toNat)else A6d (A*2^(-((E:Int)-1074-1)).toNat) (B*(2*n-1)*2^((E:Int)-1074-1).toNat))=A6d (2*(A*p2 1074)) (mid (m-1)*B):=by
  by_cases f:n=4503599627370496/\0<E
  ·rw[if_pos (l.2 f),B2p A (B*(4*n-1)) E 1076 _ (by omega),k]
   rw[if_pos f,Nat.one_mul]at j
   have d:2*mid (m-1)=(4*n-1)*p2 E:=by
    rw[Nat.sub_mul,Nat.one_mul];have:4*n*p2 E=4*(n*p2 E):=Nat.mul_assoc ..;have:=A2y E;generalize n*p2 E=z at*;generalize p2 E=y at*;omega
   rw[Nat.mul_comm B,Nat.mul_right_comm,<-d,<-B0f (2*(A*p2 1074)) (mid (m-1)*B) 2 (by omega)];generalize A*p2 1074=x;rw[show 4*x=2*x*2 by omega,show 2*mid (m-1)*B=mid (m-1)*B*2 by rw[Nat.mul_assoc,Nat.mul_comm]]
  ·rw[if_neg (λh=>f (l.1 h)),B2p A (B*(2*n-1)) E 1075 _ (by omega),o]
   rw[if_neg f]at j
   have d:mid (m-1)=(2*n-1)*p2 E:=by
    rw[Nat.sub_mul,Nat.one_mul];have:2*n*p2 E=2*(n*p2 E):=Nat.mul_assoc ..;generalize n*p2 E=z at*;generalize p2 E=y at*;omega
   rw[d,Nat.mul_comm B,Nat.mul_right_comm]
 rw[i,g,o];unfold Rnd;simp only[Bool.and_eq_true,Bool.or_eq_true,decide_eq_true_eq,E5g,D2q,C6j];generalize 2*(A*p2 1074)=x;generalize mid m*B=y;generalize mid (m-1)*B=z;constructor
 ·rintro⟨a,b⟩
  refine⟨?_,?_⟩
  ·rcases b with b|⟨b,c⟩
   ·exact .inr (.inl b)
   ·exact .inr (.inr ⟨b.symm,c⟩)
  ·exact a
 ·rintro⟨a,b⟩
  refine⟨b,?_⟩;rcases a with a|a|⟨a,c⟩
  ·exact absurd a e
  ·exact .inl a
  ·exact .inr ⟨a.symm,c⟩
theorem F7y (v:Value) (A B L m n E:Nat) (N e:Int) (w:World) (f:m<9218868437227405312) (a:(A0w m).1=n) (b:(A0w m).2=E) (d:N=(n:Int)) (j:e=(E:Int)-1074) (g:L<=10000000) (c:A7b w v A B L):
 Calls Tryz.prog 206 #[v,.int .u64 N,.int .i64 e] w λr w'=>r=.returned (.int .i64 (A6d (A*p2 1074) (B*V m)))/\Fr (λ_=>False) w w':=by
 have i:=B5c m f;rw[a,b]at i;refine(A5j v A B L N n e w d g (by omega) (by omega) (by omega) c).mono ?_;rintro r w' ⟨rfl,h⟩;refine⟨?_,h⟩;rw[B2p A (B*n) E 1074 e (by omega),B1a m,a,b,Nat.mul_assoc]
def A8u (m:Nat) (X:Int):Prop:=p10 X.toNat*p2 1074<=p10 (-X).toNat*V m
theorem E5h (a b:Nat):A6d a b<=0↔a<=b:=by
 have d:=C6j a b;constructor
 ·intro h
  rcases Nat.lt_or_ge b a with c|c
  ·have:=d.2 c;omega
  ·exact c
 ·intro h
  rcases Int.lt_or_le 0 (A6d a b)with c|c
  ·have:=d.1 c;omega
  ·exact c
def CLe (m c:Nat) (X:Int):Prop:=c*p10 X.toNat*p2 1074<=p10 (-X).toNat*V m
theorem CLe.shift (m c:Nat) (X:Int):CLe m c (X+1)↔CLe m (10*c) X:=by
 unfold CLe;rcases Int.lt_or_le X 0 with h|h
 ·rw[show(X+1).toNat=0 by omega,show X.toNat=0 by omega,show(-X).toNat=(-(X+1)).toNat+1 by omega,A1z,show p10 0=1 from rfl,Nat.mul_one,Nat.mul_one]
  generalize p10 (-(X+1)).toNat=p;rw[Nat.mul_assoc 10 c,Nat.mul_comm p 10,Nat.mul_assoc 10 p];generalize c*p2 1074=a;generalize p*V m=b;omega
 ·rw[show(X+1).toNat=X.toNat+1 by omega,show(-(X+1)).toNat=0 by omega,show(-X).toNat=0 by omega,A1z]
  rw[show c*(p10 X.toNat*10)=10*c*p10 X.toNat from by rw[Nat.mul_comm 10 c,Nat.mul_assoc,Nat.mul_comm 10]]
theorem CLe.zero (m:Nat) (X:Int):CLe m 0 X:=by unfold CLe;rw[Nat.zero_mul,Nat.zero_mul];exact Nat.zero_le _
theorem D2s (m:Nat) (X:Int):A8u m X↔CLe m 1 X:=by unfold A8u CLe;rw[Nat.one_mul]
theorem E5i (k:Nat) (h:k<9):(ByteArray.mk #[49,50,51,52,53,54,55,56,57]).extract k (k+1)=ofL [UInt8.ofNat (48+(k+1))]:=by
 have:k=0\/k=1\/k=2\/k=3\/k=4\/k=5\/k=6\/k=7\/k=8:=by omega
 rcases this with rfl|rfl|rfl|rfl|rfl|rfl|rfl|rfl|rfl<;>rfl
theorem D2t (l:LU8) (k:Nat) (h:k<10):num (dv (l++[UInt8.ofNat (48+k)]))=num (dv l)*10+k:=by
 rw[A4d]
 show num (dv l++[(UInt8.ofNat (48+k)).toNat-48])=_
 rw[A4x,A3s k h];omega
theorem D5f {l:LU8} (h:A4h l) (k:Nat) (b:k<10):A4h (l++[UInt8.ofNat (48+k)]):=
 h.append (by intro c a;rw[List.mem_singleton]at a;rw[a];exact D1r k b)
def F1t (m:Nat) (l:LU8) (i:Nat) (X:Int):Prop:=A4h l/\l.length=i/\CLe m (num (dv l)) X/\¬CLe m (num (dv l)+1) X
theorem F1t.start {m:Nat} {x:Int} (h:¬A8u m (x+1)):F1t m [] 0 (x-((0:Nat):Int)+1):=by
 have e:x-((0:Nat):Int)+1=x+1:=by omega
 rw[e];exact⟨A4k,rfl,CLe.zero m _,mt (D2s m (x+1)).2 h⟩
def F1u (s:Nat):Prop:=s=0\/s=1\/s=2\/s=4\/s=8\/s=16\/s=32\/s=64\/s=128\/s=256\/s=512
def D8p (m:Nat) (x:Int) (s:Nat):Prop:=A8u m x/\¬A8u m (x+(if s=0 then 1 else 2*(s:Int)))
theorem D8p.next {m:Nat} {x:Int} {s:Nat} (h:D8p m x s) (b:F1u s) (d:s≠0):(A8u m (x+s)->D8p m (x+s) (s/2))/\(¬A8u m (x+s)->D8p m x (s/2)):=by
 obtain⟨e,c⟩:=h;rw[if_neg d]at c
 have a:(if s/2=0 then(1:Int)else 2*((s/2:Nat):Int))=s:=by
  unfold F1u at b;rcases b with h|h|h|h|h|h|h|h|h|h|h<;>subst h<;>first|(exact absurd rfl d)|rfl
 refine⟨λh=>⟨h,?_⟩,λh=>⟨e,?_⟩⟩
 ·rw[a,show x+(s:Int)+s=x+2*s by omega];exact c
 ·rw[a];exact h
theorem F1u.half {s:Nat} (h:F1u s):F1u (s/2):=by
 unfold F1u at*;omega
theorem F1v (D:Nat) (h:D % 10≠0):(dgs D).getLast? ≠some 48:=by
 have d:=A3s (D % 10) (by omega)
 have a:UInt8.ofNat (48+D % 10)≠48:=by
  intro e;have:=congrArg UInt8.toNat e;rw[d]at this;have c:(48:UInt8).toNat=48:=rfl;omega
 by_cases b:D<10
 ·rw[A6a b]
  rw[show D % 10=D by omega]at a;simpa using a
 ·rw[A9h b]
  simpa using a
theorem F5k:p10 17=100000000000000000:=by decide+kernel
end Go.Proofs.YtmkkibaacclhnaaGreatDoor
