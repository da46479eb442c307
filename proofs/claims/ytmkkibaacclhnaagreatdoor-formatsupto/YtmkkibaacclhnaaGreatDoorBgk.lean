/-
  Part Bgk.
-/
import Derived.Test.YtmkkibaacclhnaaGreatDoorKep
namespace Go.Proofs.YtmkkibaacclhnaaGreatDoor
open Go.RowKit
set_option maxRecDepth 100000
set_option maxHeartbeats 16000000
def usB (ws:List Nat):List Value:=ws.map (λx:Nat=>Value.int .u64 (x:Int))
theorem B6j (ws:List Nat):(usB ws).length=ws.length:=by simp[usB]
theorem A6q (a b:List Nat):usB (a++b)=usB a++usB b:=by simp[usB]
theorem Tryz.info27:(Tryz.prog.info? 27).map (λi=>(i.zero,i.size,i.bytes))=some (some (.int .u64 0),1,8):=by kernel_rfl
def A3q (w:World) (v:Value) (ws:List Nat):Prop:=w.ownsRow 0 27 1 v ws.length (usB ws)/\A1w ws
theorem A3q.fr {w w':World} {v:Value} {ws:List Nat} (h:A3q w v ws) (a:Fr (λ_=>False) w w'):A3q w' v ws:=⟨A8c h.1 a,h.2⟩
theorem A1e {w:World} {v:Value} {ws:List Nat} (h:A3q w v ws):∃a cap,v=.slice a ws.length cap:=by
 rcases h.1.2 with⟨c,d⟩|⟨g,cap,b,e,_⟩
 ·exact⟨none,0,by rw[c,d]⟩
 ·exact⟨_,cap,e⟩
theorem A5x {w:World} {a:Option Addr} {cap:Nat} {ws:List Nat} (h:A3q w (.slice a ws.length cap) ws) (k:Nat) (d:k<ws.length):∃g,a=some ⟨g,0,none⟩/\w.cell? ⟨g,k,none⟩=some (.int .u64 (ws[k]:Nat)):=by
 obtain⟨g,b,c⟩:=A9r h.1 (by omega);simp at c;obtain⟨rfl,rfl⟩:=c;refine⟨g,rfl,?_⟩;rw[h.1.cellAt k (by omega),usB,List.getElem?_map,List.getElem?_eq_getElem d];rfl
def A9t (w:World) (N L:Nat) (e:Ending) (w':World):Prop:=∃v' ws',e=.returned v'/\A3q w' v' ws'/\val ws'=N/\ws'.length<=L/\Fr (λ_=>False) w w'
def B5b (w:World) (N L:Nat) (e:Ending) (w':World):Prop:=∃v' ws',e=.returned v'/\v'≠.slice none 0 0/\A3q w' v' ws'/\val ws'=N/\ws'.length<=L/\Fr (λ_=>False) w w'
theorem B5b.any {w:World} {N L:Nat} {e:Ending} {w':World} (h:B5b w N L e w'):A9t w N L e w':=by
 obtain⟨d,a,b,_,c⟩:=h;exact⟨d,a,b,c⟩
theorem C6f (v:Value) (ws:List Nat) (m c:Nat) (w:World) (hl:ws.length<=1000000000) (hm:m<4294967296) (hc:c<4294967296) (O:A3q w v ws):
 Calls Tryz.prog 223 #[v,.int .u64 (m:Int),.int .u64 (c:Int)] w (B5b w (m*val ws+c) (ws.length+1)):=by
 obtain⟨a,cap,rfl⟩:=A1e O;obtain⟨X,V,C,D,E⟩:=info_parts Tryz.info27;have J:=λwx=>run_make (P:=Tryz.prog) wx 226 27 X (.int .u64 0) Tryz.underlying226 V C .i64 .i64 0 ((ws.length:Int)+2) (by omega) (by omega) (by rw[E];omega) (by omega)
 rw[D]at J;go_enter Tryz.func223,Tryz.ntmps223;go_wp2
 have M:(w.alloc (.cells (madeCells #[Value.int .u64 0] (ws.length+2)) 27)).ownsRow w.heap.size 27 1 (.slice (some ⟨w.heap.size,0,none⟩) 0 (ws.length+2)) 0 (usB []):=
  ⟨rfl,.inr ⟨_,_,_,rfl,Nat.le_refl _,heap_alloc_new _ _,by omega,by unfold maxLen;omega,by rw[size_madeCells];omega,by simp[usB]⟩⟩
 have R:=hid M;have HB:=hid O;clear M J
 go_loopw [2,7,8] (λcy out i wr=>∃(k:Nat) (e:List Nat) (y:Nat),k<=ws.length/\e.length=k/\A1w e/\y<4294967296/\Hid (val e+4294967296^k*y=m*val (ws.take k)+c)/\cy=.int .u64 y/\i=.int .i64 k/\
  Hid (wr.ownsRow w.heap.size 27 1 out k (usB e))/\Hid (out≠.slice none 0 0)/\Hid (Fr (λ_=>False) w wr)) (λ_ _ i _=>ws.length-(intOf i).toNat)
 case atStart=>exact⟨0,[],c,Nat.zero_le _,rfl,(by intro x hx;cases hx),hc,(by simp[Hid,val]),rfl,rfl,R,hid (by simp),hid ((Fr.refl _ _).alloc _)⟩
 case round=>
  obtain⟨k,e,y,hk,l,h,Q,r,rfl,rfl,t,f,o⟩:=hrel;by_cases p:k<ws.length
  ·have hx:ws[k]<4294967296:=O.2 _ (List.getElem_mem p)
   obtain⟨g,rfl,a1⟩:=A5x (O.fr o.out) k p;have W:ws[k]*m<=4294967295*4294967295:=Nat.mul_le_mul (by omega) (by omega);have I:((ws[k]*m:Nat):Int)=(ws[k]:Int)*(m:Int):=Int.natCast_mul _ _;have a2:IntKind.u64.wrap ((ws[k]:Int)*(m:Int))=((ws[k]*m:Nat):Int):=by rw[<-I,IntWalk.u64_in _ (by omega)]
   have a3:IntKind.u64.wrap (((ws[k]*m:Nat):Int)+(y:Int))=((y+ws[k]*m:Nat):Int):=by rw[IntWalk.u64_in _ (by omega)];omega
   have T:=hid (F4r e ws m c y k p l r.out);have U:w.heap.size<=wr.heap.size:=o.size;clear r I;generalize ws[k]*m=q at*;have Z:=t;have G:=hid (show((y+q:Nat):Int)/4294967296=(((y+q)/4294967296:Nat):Int) by omega);have H:=hid (show((y+q:Nat):Int) % 4294967296=(((y+q) % 4294967296:Nat):Int) by omega);have L:=hid (show y+q<18446744073709551616 by omega);clear W;generalize y+q=s at*;clear t
   go_wp2_with (first
    |(at_builtin;refine wpList_append_own _ rfl _ _ 226 rfl w.heap.size 27 X (.int .u64 0) 1 8 Tryz.underlying226 V C D E rfl (by decide) _ _ _ rfl (Z.alloc _) ⟨wr.heap.size,0,none⟩ 1 1 [.int .u64 ((s:Int) % 4294967296)] rfl rfl ?c1 ?c2 ?c3 ?c4 ?c5 ?_)
    |go_in)
   case c1=>exact cell_one_new _ _ _
   case c2=>intro u N;simp at N;subst N;rfl
   case c3=>unfold maxLen;omega
   case c4=>omega
   case c5=>simp;omega
   intro Y w1 b d _;have n:=hid (show Y≠.slice none 0 0 from by obtain⟨g',F,rfl⟩:=A4g b;simp);have A:=hid b;have z:=hid ((o.alloc (.cells #[.int .u64 ((s:Int) % 4294967296)] 27)).grown d (λj hj=>.inr (Z.lt j hj).1));clear b d;go_wp2;go_roundw
   case rel=>
    refine⟨k+1,e++[s % 4294967296],s/4294967296,p,by simp[l],h.append (A1w.one (by omega)),by have:=L.out;omega,T,by rw[G.out],by go_num,hid ?_,n,z⟩;rw[A6q];have:=A.out;rw[H.out]at this;exact this
   case measure=>simp[intOf];omega
  ·obtain rfl:k=ws.length:=by omega
   rw[List.take_length]at r;go_wp2
   go_loopw [2,7] (λcy out wr=>∃(e:List Nat) (y:Nat),A1w e/\y<4294967296/\Hid (val e+4294967296^e.length*y=m*val ws+c)/\(e.length=ws.length\/(y=0/\e.length=ws.length+1))/\cy=.int .u64 y/\
    Hid (wr.ownsRow w.heap.size 27 1 out e.length (usB e))/\Hid (out≠.slice none 0 0)/\Hid (Fr (λ_=>False) w wr)) (λcy _ _=>(intOf cy).toNat)
   case atStart=>exact⟨e,y,h,Q,by rw[l];exact r,.inl l,rfl,by rw[l];exact t,f,o⟩
   case round=>
    clear r t o h Q l f;obtain⟨e,y,h,Q,r,hd,rfl,t,f,o⟩:=hrel;by_cases B:y=0
    ·subst B
     go_wp2;go_ret;refine⟨_,e,rfl,f.out,⟨A1j t.out,h⟩,?_,by omega,o.out⟩;have:=r.out;rw[Nat.mul_zero,Nat.add_zero]at this;exact this
    ·have a0:0<y:=by omega
     have K:e.length=ws.length:=by omega
     have G:(y:Int)/4294967296=0:=by omega
     have H:(y:Int) % 4294967296=y:=by omega
     have U:w.heap.size<=wr.heap.size:=o.size;have S:=hid B;clear hd B
     go_wp2_with (first
      |(at_builtin;refine wpList_append_own _ rfl _ _ 226 rfl w.heap.size 27 X (.int .u64 0) 1 8 Tryz.underlying226 V C D E rfl (by decide) _ _ _ rfl (t.alloc _) ⟨wr.heap.size,0,none⟩ 1 1 [.int .u64 (y:Int)] rfl rfl ?c1 ?c2 ?c3 ?c4 ?c5 ?_)
      |go_in)
     case c1=>exact cell_one_new _ _ _
     case c2=>intro u N;simp at N;subst N;rfl
     case c3=>unfold maxLen;omega
     case c4=>omega
     case c5=>simp;omega
     intro Y w1 b d _;have n:=hid (show Y≠.slice none 0 0 from by obtain⟨g',F,rfl⟩:=A4g b;simp);have A:=hid b;have z:=hid ((o.alloc (.cells #[.int .u64 (y:Int)] 27)).grown d (λj hj=>.inr (t.lt j hj).1));clear b d;go_wp2;go_roundw
     case rel=>
      refine⟨e++[y],0,h.append (A1w.one Q),by omega,hid ?_,.inr ⟨rfl,by simp[K]⟩,rfl,hid ?_,n,z⟩
      ·rw[A5q,Nat.mul_zero,Nat.add_zero];exact r.out
      ·rw[A6q,List.length_append,K];exact A.out
     case measure=>simp[intOf];have:=S.out;omega
theorem B0e (v:Value) (ws:List Nat) (m c:Nat) (w:World) (d:ws.length<=1000000000) (e:m<4294967296) (b:c<4294967296) (a:A3q w v ws):
 Calls Tryz.prog 223 #[v,.int .u64 (m:Int),.int .u64 (c:Int)] w (A9t w (m*val ws+c) (ws.length+1)):=
 (C6f v ws m c w d e b a).mono (λ_ _ h=>h.any)
def C6g (w:World) (N L:Nat) (v:Value) (k:Nat) (wr:World):Prop:=∃ws,A3q wr v ws/\val ws*p10 k=N/\ws.length+k<=L/\Fr (λ_=>False) w wr
theorem C9f {w wr c:World} {N L:Nat} {k j f:Nat} {e:Ending} {ws:List Nat} (i:val ws*p10 k=N) (p:ws.length+k<=L) (q:j+1<=k) (m:p10 k=f*p10 j) (l:Fr (λ_=>False) w wr) (n:A9t wr (f*val ws+0) (ws.length+1) e c):
 ∃a,e=.returned a/\C6g w N L a j c:=by
 obtain⟨a,b,rfl,d,g,o,h⟩:=n;refine⟨a,rfl,b,d,?_,by omega,l.trans h⟩;rw[g,<-i,m,Nat.add_zero,Nat.mul_comm f,Nat.mul_assoc]
theorem E4z (v:Value) (ws:List Nat) (n:Nat) (w:World) (B:ws.length+n<=100000000) (u:A3q w v ws):
 Calls Tryz.prog 208 #[v,.int .i64 (n:Int)] w (A9t w (val ws*p10 n) (ws.length+n)):=by
 have s:=hid (show C6g w (val ws*p10 n) (ws.length+n) v n w from⟨ws,u,rfl,Nat.le_refl _,Fr.refl _ _⟩);clear u;go_enter Tryz.func208,Tryz.ntmps208;go_wp2
 go_loopw [0,1] (λa i wr=>∃k:Nat,k<=n/\i=.int .i64 k/\Hid (C6g w (val ws*p10 n) (ws.length+n) a k wr)) (λ_ i _=>(intOf i).toNat)
 case atStart=>exact⟨n,Nat.le_refl _,rfl,s⟩
 case round=>
  obtain⟨k,r,rfl,c⟩:=hrel;clear s;by_cases y:9<=k
  ·obtain⟨usB,f,g,m,h⟩:=c.out
   have o:=hid f;have p:=hid g;have q:=hid h;clear c f g h
   go_wp2_with fail
   refine(B0e _ usB 1000000000 0 _ (by omega) (by omega) (by omega) o.out).mono ?_;intro e A l;obtain⟨z,rfl,b⟩:=C9f (j:=k-9) p.out m (by omega) (by rw[show p10 k=p10 (9+(k-9))from by congr 1;omega,A1h];rfl) q.out l;have d:=hid b;clear b l;go_wp2;go_roundw
   case rel=>exact⟨k-9,by omega,by go_num,d⟩
   case measure=>simp[intOf];omega
  ·go_wp2
   go_loopw [0,1] (λa i wr=>∃k:Nat,k<=n/\i=.int .i64 k/\Hid (C6g w (val ws*p10 n) (ws.length+n) a k wr)) (λ_ i _=>(intOf i).toNat)
   case atStart=>exact⟨k,r,rfl,c⟩
   case round=>
    clear c y r;obtain⟨k,r,rfl,c⟩:=hrel;by_cases t:k=0
    ·subst t
     go_wp2;go_ret;obtain⟨usB,f,g,m,h⟩:=c.out;exact⟨_,usB,rfl,f,by rw[<-g,show p10 0=1 from rfl,Nat.mul_one],by omega,h⟩
    ·have x:0<k:=by omega
     obtain⟨usB,f,g,m,h⟩:=c.out;have o:=hid f;have p:=hid g;have q:=hid h;clear c f g h t
     go_wp2_with fail
     refine(B0e _ usB 10 0 _ (by omega) (by omega) (by omega) o.out).mono ?_;intro e A l;obtain⟨z,rfl,b⟩:=C9f (j:=k-1) p.out m (by omega) (by rw[show p10 k=p10 (1+(k-1))from by congr 1;omega,A1h];rfl) q.out l;have d:=hid b;clear b l;go_wp2;go_roundw
     case rel=>exact⟨k-1,by omega,by go_num,d⟩
     case measure=>simp[intOf];omega
theorem C3n (l:LU8) (w:World) (F:l.length<=100000000) (y:A4h l):
 Calls Tryz.prog 207 #[.string (ofL l)] w (A9t w (num (dv l)) l.length):=by
 have j:=A0c l;go_enter Tryz.func207,Tryz.ntmps207;go_wp2
 go_loopw [3,4] (λa i wr=>∃(k:Nat) (ws:List Nat),k<=l.length/\i=.int .i64 k/\Hid (A3q wr a ws)/\Hid (val ws=num (dv (l.take k)))/\ws.length<=k/\Hid (Fr (λ_=>False) w wr)) (λ_ i _=>l.length-(intOf i).toNat)
 case atStart=>exact⟨0,[],by omega,rfl,hid ⟨World.ownsRow_nil _ _ _ _,by intro x z;cases z⟩,hid rfl,by simp,hid (Fr.refl _ _)⟩
 case round=>
  obtain⟨k,ws,E,rfl,r,d,m,s⟩:=hrel;by_cases b:k<l.length
  ·have D:(ofL l)[k]'(by rw[j];exact b)=l[k]:=A1d l k _
   obtain⟨B,C⟩:=(A6h _).1 (y _ (List.getElem_mem b))
   have h:=hid (show num (dv (l.take (k+1)))=num (dv (l.take k))*10+(l[k].toNat-48)from by
    rw[List.take_succ_eq_append_getElem b,A4d]
    exact A4x _ _)
   generalize f:l[k]=c at*;have g:=hid (show((c.toNat:Int)-48)=((c.toNat-48:Nat):Int) by omega);clear f
   go_wp2_with fail
   rw[g.out];refine(B0e _ ws 10 (c.toNat-48) _ (by omega) (by omega) (by omega) r.out).mono ?_;rintro e H ⟨G,n,rfl,o,p,A,q⟩;have t:=hid o;have u:=hid p;have v:=hid q;clear o p q;go_wp2;go_roundw
   case rel=>exact⟨k+1,n,by omega,by go_num,t,hid (by rw[u.out,h.out,d.out,Nat.mul_comm]),by omega,hid (s.trans v.out)⟩
   case measure=>simp[intOf];omega
  ·obtain rfl:k=l.length:=by omega
   rw[List.take_length]at d;go_wp2;go_ret;exact⟨_,ws,rfl,r.out,d.out,m,s.out⟩
theorem E5a (xs ys b:List Nat) (k y:Nat) (a:b.length=k) (h:val b+4294967296^k*y=val (xs.take k)+val (ys.take k)):
 val (b++[(y+xs[k]?.getD 0+ys[k]?.getD 0) % 4294967296])+4294967296^(k+1)*((y+xs[k]?.getD 0+ys[k]?.getD 0)/4294967296)=val (xs.take (k+1))+val (ys.take (k+1)):=by
 rw[B7w,B7w,A5q,a,Nat.pow_succ,Nat.mul_assoc,Nat.add_assoc,<-Nat.mul_add,Nat.mod_add_div,Nat.mul_add,Nat.mul_add];omega
theorem C6h (v u:Value) (xs ys:List Nat) (w:World) (Y:xs.length<=1000000000) (Z:ys.length<=1000000000) (N:A3q w v xs) (O:A3q w u ys):
 Calls Tryz.prog 210 #[v,u] w (B5b w (val xs+val ys) (max xs.length ys.length+1)):=by
 obtain⟨a,ca,rfl⟩:=A1e N;obtain⟨b,cb,rfl⟩:=A1e O;obtain⟨L,K,z,A,B⟩:=info_parts Tryz.info27;go_enter Tryz.func210,Tryz.ntmps210;go_wp2;have I:=hid N;have J:=hid O;clear N O
 go_loopw [5,6,7] (λout cy i wr=>∃(k:Nat) (r:List Nat) (y:Nat),k<=max xs.length ys.length/\r.length=k/\A1w r/\y<=1/\Hid (val r+4294967296^k*y=val (xs.take k)+val (ys.take k))/\cy=.int .u64 y/\i=.int .i64 k/\
  Hid (wr.ownsRow w.heap.size 27 1 out k (usB r))/\Hid (Fr (λ_=>False) w wr)) (λ_ _ i _=>max xs.length ys.length-(intOf i).toNat)
 case atStart=>exact⟨0,[],0,Nat.zero_le _,rfl,(by intro x hx;cases hx),by omega,(by simp[Hid,val]),rfl,rfl,hid (World.ownsRow_nil _ _ _ _),hid (Fr.refl _ _)⟩
 case round=>
  obtain⟨k,r,y,hk,g,t,hy,G,rfl,rfl,D,s⟩:=hrel;have X:w.heap.size<=wr.heap.size:=s.size;have o:=E5a xs ys r k y g G.out;by_cases F:k<xs.length
  ·by_cases E:k<ys.length
   ·
    obtain⟨V,rfl,P⟩:=A5x (I.fr s.out) k F;have R:xs[k]<4294967296:=I.2 _ (List.getElem_mem F);have ex:xs[k]?.getD 0=xs[k]:=by rw[List.getElem?_eq_getElem F];rfl
    obtain⟨W,rfl,Q⟩:=A5x (J.fr s.out) k E;have S:ys[k]<4294967296:=J.2 _ (List.getElem_mem E);have h:ys[k]?.getD 0=ys[k]:=by rw[List.getElem?_eq_getElem E];rfl
    rw[ex,h]at o;have C:=hid o;clear o G ex h;generalize xs[k]=p at*;generalize ys[k]=q at*;have l:=hid (show((y:Int)+(p:Int)+(q:Int))/4294967296=(((y+p+q)/4294967296:Nat):Int) by omega);have m:=hid (show((y:Int)+(p:Int)+(q:Int)) % 4294967296=(((y+p+q) % 4294967296:Nat):Int) by omega)
    go_wp2_with (first
     |(at_builtin;refine wpList_append_own _ rfl _ _ 226 rfl w.heap.size 27 L (.int .u64 0) 1 8 Tryz.underlying226 K z A B rfl (by decide) _ _ _ rfl (D.alloc _) ⟨wr.heap.size,0,none⟩ 1 1 [.int .u64 (((y:Int)+(p:Int)+(q:Int)) % 4294967296)] rfl rfl ?c1 ?c2 ?c3 ?c4 ?c5 ?_)
     |go_in)
    case c1=>exact cell_one_new _ _ _
    case c2=>intro u n;simp at n;subst n;rfl
    case c3=>unfold maxLen;omega
    case c4=>omega
    case c5=>simp;omega
    intro M T c d _;have f:=hid c;have e:=hid ((s.alloc (.cells #[.int .u64 (((y:Int)+(p:Int)+(q:Int)) % 4294967296)] 27)).grown d (λj hj=>.inr (D.lt j hj).1));clear c d;go_wp2;go_roundw
    case rel=>
     refine⟨k+1,r++[(y+p+q) % 4294967296],(y+p+q)/4294967296,by omega,by simp[g],t.append (A1w.one (by omega)),by omega,C,by rw[l.out],by go_num,hid ?_,e⟩;have:=f.out;rw[m.out]at this;rw[A6q];exact this
    case measure=>simp[intOf];omega
   ·
    obtain⟨V,rfl,P⟩:=A5x (I.fr s.out) k F;have R:xs[k]<4294967296:=I.2 _ (List.getElem_mem F);have ex:xs[k]?.getD 0=xs[k]:=by rw[List.getElem?_eq_getElem F];rfl
    have h:ys[k]?.getD 0=0:=by rw[List.getElem?_eq_none (by omega)];rfl
    rw[ex,h]at o;have C:=hid o;clear o G ex h;generalize xs[k]=p at*;have l:=hid (show((y:Int)+(p:Int))/4294967296=(((y+p+0)/4294967296:Nat):Int) by omega);have m:=hid (show((y:Int)+(p:Int)) % 4294967296=(((y+p+0) % 4294967296:Nat):Int) by omega)
    go_wp2_with (first
     |(at_builtin;refine wpList_append_own _ rfl _ _ 226 rfl w.heap.size 27 L (.int .u64 0) 1 8 Tryz.underlying226 K z A B rfl (by decide) _ _ _ rfl (D.alloc _) ⟨wr.heap.size,0,none⟩ 1 1 [.int .u64 (((y:Int)+(p:Int)) % 4294967296)] rfl rfl ?c1 ?c2 ?c3 ?c4 ?c5 ?_)
     |go_in)
    case c1=>exact cell_one_new _ _ _
    case c2=>intro u n;simp at n;subst n;rfl
    case c3=>unfold maxLen;omega
    case c4=>omega
    case c5=>simp;omega
    intro M T c d _;have f:=hid c;have e:=hid ((s.alloc (.cells #[.int .u64 (((y:Int)+(p:Int)) % 4294967296)] 27)).grown d (λj hj=>.inr (D.lt j hj).1));clear c d;go_wp2;go_roundw
    case rel=>
     refine⟨k+1,r++[(y+p+0) % 4294967296],(y+p+0)/4294967296,by omega,by simp[g],t.append (A1w.one (by omega)),by omega,C,by rw[l.out],by go_num,hid ?_,e⟩;have:=f.out;rw[m.out]at this;rw[A6q];exact this
    case measure=>simp[intOf];omega
  ·by_cases E:k<ys.length
   ·
    have ex:xs[k]?.getD 0=0:=by rw[List.getElem?_eq_none (by omega)];rfl
    obtain⟨W,rfl,Q⟩:=A5x (J.fr s.out) k E;have S:ys[k]<4294967296:=J.2 _ (List.getElem_mem E);have h:ys[k]?.getD 0=ys[k]:=by rw[List.getElem?_eq_getElem E];rfl
    rw[ex,h]at o;have C:=hid o;clear o G ex h;generalize ys[k]=q at*;have l:=hid (show((y:Int)+(q:Int))/4294967296=(((y+0+q)/4294967296:Nat):Int) by omega);have m:=hid (show((y:Int)+(q:Int)) % 4294967296=(((y+0+q) % 4294967296:Nat):Int) by omega)
    go_wp2_with (first
     |(at_builtin;refine wpList_append_own _ rfl _ _ 226 rfl w.heap.size 27 L (.int .u64 0) 1 8 Tryz.underlying226 K z A B rfl (by decide) _ _ _ rfl (D.alloc _) ⟨wr.heap.size,0,none⟩ 1 1 [.int .u64 (((y:Int)+(q:Int)) % 4294967296)] rfl rfl ?c1 ?c2 ?c3 ?c4 ?c5 ?_)
     |go_in)
    case c1=>exact cell_one_new _ _ _
    case c2=>intro u n;simp at n;subst n;rfl
    case c3=>unfold maxLen;omega
    case c4=>omega
    case c5=>simp;omega
    intro M T c d _;have f:=hid c;have e:=hid ((s.alloc (.cells #[.int .u64 (((y:Int)+(q:Int)) % 4294967296)] 27)).grown d (λj hj=>.inr (D.lt j hj).1));clear c d;go_wp2;go_roundw
    case rel=>
     refine⟨k+1,r++[(y+0+q) % 4294967296],(y+0+q)/4294967296,by omega,by simp[g],t.append (A1w.one (by omega)),by omega,C,by rw[l.out],by go_num,hid ?_,e⟩;have:=f.out;rw[m.out]at this;rw[A6q];exact this
    case measure=>simp[intOf];omega
   ·have ex:xs.take k=xs:=List.take_of_length_le (by omega)
    have h:ys.take k=ys:=List.take_of_length_le (by omega);have C:=hid G.out;rw[ex,h]at C;clear o G ex h
    go_wp2_with (first
     |(at_builtin;refine wpList_append_own _ rfl _ _ 226 rfl w.heap.size 27 L (.int .u64 0) 1 8 Tryz.underlying226 K z A B rfl (by decide) _ _ _ rfl (D.alloc _) ⟨wr.heap.size,0,none⟩ 1 1 [.int .u64 (y:Int)] rfl rfl ?c1 ?c2 ?c3 ?c4 ?c5 ?_)
     |go_in)
    case c1=>exact cell_one_new _ _ _
    case c2=>intro u n;simp at n;subst n;rfl
    case c3=>unfold maxLen;omega
    case c4=>omega
    case c5=>simp;omega
    intro M T c d _;have H:=hid (show M≠.slice none 0 0 from by obtain⟨g',U,rfl⟩:=A4g c;simp);have f:=hid c;have e:=hid ((s.alloc (.cells #[.int .u64 (y:Int)] 27)).grown d (λj hj=>.inr (D.lt j hj).1));clear c d;go_wp2;go_ret;refine⟨_,r++[y],rfl,H.out,⟨?_,t.append (A1w.one (by omega))⟩,?_,by simp;omega,e.out⟩
    ·rw[A6q,List.length_append,g];exact A1j f.out
    ·rw[A5q,g];exact C.out
def A6d (a b:Nat):Int:=if a<b then-1 else if a=b then 0 else 1
def B8d (xs:List Nat) (n:Nat):List Nat:=xs++List.replicate n 0
theorem B0z (xs:List Nat) (n:Nat):(B8d xs n).length=xs.length+n:=by simp[B8d]
theorem D8k (n:Nat):val (List.replicate n 0)=0:=by
 induction n with
 |zero=>rfl
 |succ n ih=>rw[List.replicate_succ,val,ih]
theorem B8e (xs:List Nat) (n:Nat):val (B8d xs n)=val xs:=by rw[B8d,A8a,D8k];omega
theorem D8m {xs:List Nat} (h:A1w xs) (n:Nat):A1w (B8d xs n):=by
 intro x a;rw[B8d,List.mem_append]at a;rcases a with a|a
 ·exact h x a
 ·rw[List.mem_replicate]at a;omega
theorem B8f (xs:List Nat) (n j:Nat) (h:j<(B8d xs n).length):(B8d xs n)[j]=xs[j]?.getD 0:=by
 rcases Nat.lt_or_ge j xs.length with a|a
 ·rw[List.getElem?_eq_getElem a]
  simp only[B8d];rw[List.getElem_append_left a];rfl
 ·rw[List.getElem?_eq_none a]
  simp only[B8d];rw[List.getElem_append_right a];simp
theorem B2n {xs ys:List Nat} {j:Nat} (b:A1w xs) (c:j<xs.length+ys.length) (h:(B8d xs ys.length).drop (j+1)=(B8d ys xs.length).drop (j+1)) (a:xs[j]?.getD 0<ys[j]?.getD 0):val xs<val ys:=by
 rw[<-B8e xs ys.length,<-B8e ys xs.length];exact A9v _ _ (D8m b _) (by rw[B0z,B0z];omega) j (by rw[B0z];omega) h (by rw[B8f,B8f];exact a)
theorem C3p {xs ys:List Nat} (h:(B8d xs ys.length).drop 0=(B8d ys xs.length).drop 0):val xs=val ys:=by
 rw[<-B8e xs ys.length,<-B8e ys xs.length];rw[List.drop_zero,List.drop_zero]at h;rw[h]
theorem A9m {xs ys:List Nat} {j:Nat} (b:j<xs.length+ys.length) (h:(B8d xs ys.length).drop (j+1)=(B8d ys xs.length).drop (j+1)) (a:xs[j]?.getD 0=ys[j]?.getD 0):(B8d xs ys.length).drop j=(B8d ys xs.length).drop j:=by
 rw[List.drop_eq_getElem_cons (i:=j) (l:=B8d xs ys.length) (by rw[B0z];omega),List.drop_eq_getElem_cons (i:=j) (l:=B8d ys xs.length) (by rw[B0z];omega),h,B8f,B8f,a]
theorem B7b (v u:Value) (xs ys:List Nat) (w:World) (H:xs.length<=1000000000) (I:ys.length<=1000000000) (z:A3q w v xs) (A:A3q w u ys):
 Calls Tryz.prog 221 #[v,u] w λe w'=>e=.returned (.int .i64 (A6d (val xs) (val ys)))/\w'=w:=by
 obtain⟨a,J,rfl⟩:=A1e z;obtain⟨b,K,rfl⟩:=A1e A;have t:=hid z;have x:=hid A;clear z A;go_enter Tryz.func221,Tryz.ntmps221;go_wp2
 go_loop [5] (λi=>∃j:Nat,j<=xs.length+ys.length/\i=.int .i64 ((j:Int)-1)/\Hid ((B8d xs ys.length).drop j=(B8d ys xs.length).drop j)) (λi=>(intOf i+1).toNat)
 case atStart=>exact⟨xs.length+ys.length,Nat.le_refl _,by go_num,hid (by rw[List.drop_of_length_le (l:=B8d xs ys.length) (by rw[B0z];omega),List.drop_of_length_le (l:=B8d ys xs.length) (by rw[B0z];omega)])⟩
 case round=>
  obtain⟨j,L,rfl,m⟩:=hrel;cases j with
  |zero=>
   have n:=hid (show A6d (val xs) (val ys)=0 from by rw[A6d,if_neg (by rw[C3p m.out];omega),if_pos (C3p m.out)]);go_wp2;go_ret;exact⟨by rw[n.out];rfl,rfl⟩
  |succ j=>
   by_cases y:j<xs.length
   ·by_cases r:j<ys.length
    ·
     obtain⟨F,rfl,B⟩:=A5x t.out j y;have ex:xs[j]?.getD 0=xs[j]:=by rw[List.getElem?_eq_getElem y];rfl
     have D:xs[j]<4294967296:=t.2 _ (List.getElem_mem y);obtain⟨G,rfl,C⟩:=A5x x.out j r;have g:ys[j]?.getD 0=ys[j]:=by rw[List.getElem?_eq_getElem r];rfl
     have E:ys[j]<4294967296:=x.2 _ (List.getElem_mem r);have c:=hid m.out;have d:=hid ex;have f:=hid g;clear m ex g;generalize xs[j]=p at*;generalize ys[j]=q at*;by_cases k:p<q
     ·have n:=hid (show A6d (val xs) (val ys)= -1 from if_pos (B2n t.2 (by omega) c.out (by rw[d.out,f.out];exact k)))
      go_wp2;go_ret;exact⟨by rw[n.out];rfl,rfl⟩
     by_cases h:q<p
     ·have s:=B2n x.2 (by omega) (xs:=ys) (ys:=xs) c.symm (by rw[d.out,f.out];exact h)
      have n:=hid (show A6d (val xs) (val ys)=1 from by rw[A6d,if_neg (by omega),if_neg (by omega)]);clear s;go_wp2;go_ret;exact⟨by rw[n.out];rfl,rfl⟩
     have o:=hid (A9m (by omega) c.out (by rw[d.out,f.out];omega));obtain rfl:p=q:=by omega
     clear k h;go_wp2
     go_round
     case rel=>exact⟨j,by omega,by go_num,o⟩
     case measure=>simp[intOf]
    ·
     obtain⟨F,rfl,B⟩:=A5x t.out j y;have ex:xs[j]?.getD 0=xs[j]:=by rw[List.getElem?_eq_getElem y];rfl
     have D:xs[j]<4294967296:=t.2 _ (List.getElem_mem y);have g:ys[j]?.getD 0=0:=by rw[List.getElem?_eq_none (by omega)];rfl
     have c:=hid m.out;have d:=hid ex;have f:=hid g;clear m ex g;generalize xs[j]=p at*;by_cases h:0<p
     ·have s:=B2n x.2 (by omega) (xs:=ys) (ys:=xs) c.symm (by rw[d.out,f.out];exact h)
      have n:=hid (show A6d (val xs) (val ys)=1 from by rw[A6d,if_neg (by omega),if_neg (by omega)]);clear s;go_wp2;go_ret;exact⟨by rw[n.out];rfl,rfl⟩
     have o:=hid (A9m (by omega) c.out (by rw[d.out,f.out];omega));obtain rfl:p=0:=by omega
     clear h;go_wp2
     go_round
     case rel=>exact⟨j,by omega,by go_num,o⟩
     case measure=>simp[intOf]
   ·by_cases r:j<ys.length
    ·
     have ex:xs[j]?.getD 0=0:=by rw[List.getElem?_eq_none (by omega)];rfl
     obtain⟨G,rfl,C⟩:=A5x x.out j r;have g:ys[j]?.getD 0=ys[j]:=by rw[List.getElem?_eq_getElem r];rfl
     have E:ys[j]<4294967296:=x.2 _ (List.getElem_mem r);have c:=hid m.out;have d:=hid ex;have f:=hid g;clear m ex g;generalize ys[j]=q at*;by_cases k:0<q
     ·have n:=hid (show A6d (val xs) (val ys)= -1 from if_pos (B2n t.2 (by omega) c.out (by rw[d.out,f.out];exact k)))
      go_wp2;go_ret;exact⟨by rw[n.out];rfl,rfl⟩
     have o:=hid (A9m (by omega) c.out (by rw[d.out,f.out];omega));obtain rfl:q=0:=by omega
     clear k;go_wp2
     go_round
     case rel=>exact⟨j,by omega,by go_num,o⟩
     case measure=>simp[intOf]
    ·
     have ex:xs[j]?.getD 0=0:=by rw[List.getElem?_eq_none (by omega)];rfl
     have g:ys[j]?.getD 0=0:=by rw[List.getElem?_eq_none (by omega)];rfl
     have c:=hid m.out;have d:=hid ex;have f:=hid g;clear m ex g;have o:=hid (A9m (by omega) c.out (by rw[d.out,f.out]));go_wp2
     go_round
     case rel=>exact⟨j,by omega,by go_num,o⟩
     case measure=>simp[intOf]
theorem D2n {ws:List Nat}:∀u∈usB ws,u.oneCell'=true:=by intro u b;simp[usB]at b;obtain⟨a,_,rfl⟩:=b;rfl
theorem F1p (n:Nat):usB (List.replicate n 0)=List.replicate n (.int .u64 0):=by simp[usB]
theorem B8g {w:World} {v:Value} {ws:List Nat} (h:A3q w v ws) (c:v≠.slice none 0 0):∃g cap,v=.slice (some ⟨g,0,none⟩) ws.length cap:=by
 rcases h.1.2 with⟨b,_⟩|⟨g,cap,a,d,_⟩
 ·exact absurd b c
 ·exact⟨g,cap,d⟩
theorem C0g (w:World) (x:Value) (e:Nat):(w.alloc (.cells #[x] e)).ownsRow w.heap.size e 1 (.slice (some ⟨w.heap.size,0,none⟩) 1 1) 1 [x]:=
 ⟨rfl,.inr ⟨_,_,_,rfl,Nat.le_refl _,heap_alloc_new _ _,by omega,by unfold maxLen;omega,rfl,rfl⟩⟩
theorem C6i {w0 w w':World} {e size:Nat} {v:Value} {n:Nat} {xs:List Value} (h:w.ownsRow 0 e size v n xs) (f:w0.ownsRow 0 e size v n xs) (k:Fr (λi=>i=w0.heap.size) w w'):w'.ownsRow 0 e size v n xs:=by
 obtain⟨j,b⟩:=h;refine⟨j,?_⟩;rcases b with b|⟨g,cap,a,d,l,c,hr⟩
 ·exact .inl b
 ·have m:g<w0.heap.size:=(f.lt g (by rw[d];rfl)).2
  exact .inr ⟨g,cap,a,d,l,(k.block g (lt_of_block c) (by omega)).trans c,hr⟩
theorem E5b (v:Value) (ws:List Nat) (n:Nat) (w:World) (hl:ws.length<=100000000) (hn:n<18446744073709551616) (E:A3q w v ws):
 Calls Tryz.prog 220 #[v,.int .u64 (n:Int)] w (A9t w (val ws*n) (ws.length+3)):=by
 have W:(n:Int) % 4294967296=((n % 4294967296:Nat):Int):=by omega
 have X:(n:Int)/4294967296=((n/4294967296:Nat):Int):=by omega
 have k1:n % 4294967296<4294967296:=by omega
 have k2:n/4294967296<4294967296:=by omega
 have o:=hid (show val ws*n=(n % 4294967296*val ws+0)+4294967296*(n/4294967296*val ws+0)from by
  have e:n=n % 4294967296+4294967296*(n/4294967296):=by omega
  generalize n % 4294967296=a at*;generalize n/4294967296=b at*
  rw[e,Nat.mul_add,Nat.add_zero,Nat.add_zero,Nat.mul_comm (val ws) a,Nat.mul_comm (val ws),Nat.mul_assoc])
 have H1:=hid W;have H2:=hid X;obtain⟨i0,I,K,L,M⟩:=info_parts Tryz.info27;generalize n % 4294967296=p at*;generalize n/4294967296=q at*;clear W X hn;go_enter Tryz.func220,Tryz.ntmps220
 go_wp2_with fail
 rw[H1.out];refine(B0e v ws p 0 _ (by omega) k1 (by omega) E).mono ?_;rintro e j ⟨v1,r,rfl,S,T,b3,U⟩;have Q:=hid S;have B2:=hid T;have z:=hid U;have HB:=hid E;clear S T U E
 go_wp2_with fail
 rw[H2.out];refine(C6f v ws q 0 _ (by omega) k2 (by omega) (HB.fr (z.alloc _))).mono ?_;rintro e N ⟨v2,f,rfl,Z,c2,c3,c4,c5⟩;obtain⟨V,m,rfl⟩:=B8g c2 Z;have Y:N.ownsRow j.heap.size 27 1 (.slice (some ⟨j.heap.size,0,none⟩) 1 1) 1 (usB [0]):=A8c (C0g j (.int .u64 0) 27) c5;have HZ:=hid Y;have R:=hid c2;have C3:=hid c3;have H:=c5.size;simp only[World.size_alloc]at H;have A:=hid ((z.alloc (.cells #[.int .u64 0] 27)).trans c5);have l:=hid (Q.fr ((Fr.refl (λ_=>False) j).alloc (.cells #[.int .u64 0] 27) |>.trans c5));clear c2 c3 c5 Y Z
 go_wp2_with (first
  |(at_builtin;refine wpList_append_own _ rfl _ _ 226 rfl j.heap.size 27 i0 (.int .u64 0) 1 8 Tryz.underlying226 I K L M rfl (by decide) _ _ _ rfl HZ.out ⟨V,0,none⟩ f.length m (usB f) rfl ?c0 ?c1 ?c2 ?c3 ?c4 ?c5 ?_)
  |go_in)
 case c0=>rw[B6j];omega
 case c1=>exact R.1.cells (g:=V) rfl
 case c2=>exact D2n
 case c3=>unfold maxLen;omega
 case c4=>omega
 case c5=>omega
 intro v3 O d c _
 have G:=hid (show A3q O v3 (0::f)from⟨by rw[List.length_cons,Nat.add_comm];exact A1j d,by
  intro x J;rcases List.mem_cons.1 J with rfl|J
  ·omega
  ·exact R.2 x J⟩)
 have h:Fr (λi=>i=j.heap.size) N O:=(Fr.refl _ N).grown c (λk hk=>.inl (by simpa[Value.ownBlock]using hk.symm));have B:=hid (A.trans' h (λi I=>.inr (by rw[I];exact z.size)));have F:=hid (show A3q O v1 r from⟨C6i l.1 Q.1 h,l.2⟩);have C:=hid (show val (0::f)=4294967296*(q*val ws+0)from by rw[val,C3.out];omega);clear d c h
 go_wp2_with fail
 refine(C6h _ _ r (0::f) _ (by omega) (by simp;omega) F.out G.out).mono ?_;intro e w4 hp;obtain⟨v4,P,rfl,n4,s,t,u,y⟩:=hp;have D:=hid (And.intro s (And.intro t (And.intro u y)));clear s t u y n4;go_wp2;go_ret;obtain⟨s,t,u,y⟩:=D.out;refine⟨_,P,rfl,s,?_,?_,B.trans y⟩
 ·rw[t,B2.out,C.out,o.out]
 ·simp only[List.length_cons]at u;omega
theorem F1q (w:World) (n:Nat) (a:n<=100000):(w.alloc (.cells (madeCells #[Value.int .u64 0] n) 27)).ownsRow w.heap.size 27 1 (.slice (some ⟨w.heap.size,0,none⟩) n n) n (usB (List.replicate n 0)):=by
 have:=World.ownsRow_lit w (e:=27) (size:=1) (base:=w.heap.size) (madeCells #[Value.int .u64 0] n) n (Nat.le_refl _) (by unfold maxLen;omega) (by rw[size_madeCells];omega);rw[toList_madeCells_one]at this;rw[F1p];exact this
theorem E5c (n:Nat):2^n=4294967296^(n/32)*2^(n % 32):=by
 rw[show(4294967296:Nat)=2^32 from rfl,<-Nat.pow_mul,<-Nat.pow_add,Nat.div_add_mod]
theorem C9g (v:Value) (ws:List Nat) (n:Nat) (w:World) (K:ws.length<=100000000) (L:n<=100000) (A:A3q w v ws):
 Calls Tryz.prog 222 #[v,.int .i64 (n:Int)] w (A9t w (val ws*2^n) (ws.length+n/32+1)):=by
 obtain⟨B,x,o,p,q⟩:=info_parts Tryz.info27;have j:=λwx=>run_make (P:=Tryz.prog) wx 226 27 B (.int .u64 0) Tryz.underlying226 x o .i64 .i64 ((n:Int)/32) ((n:Int)/32) (by omega) (Int.le_refl _) (by rw[q];omega) (by omega)
 rw[p]at j;have J:((n:Int)/32).toNat=n/32:=by omega
 have c:=C4i n;go_enter Tryz.func222,Tryz.ntmps222
 go_wp2_with fail
 have l:IntKind.u64.wrap ((2:Int)^(n % 32))=((2^(n % 32):Nat):Int):=by
  have h:=B8t n;have e:((2^(n % 32):Nat):Int)=(2:Int)^(n % 32):=by rw[Int.natCast_pow];rfl
  rw[<-e,IntWalk.u64_in _ (by omega)]
 rw[l];have E:=hid (B8t n);have m:=F1q w (n/32) (by omega);refine(C6f v ws (2^(n % 32)) 0 _ (by omega) E.out (by omega) (A.fr ((Fr.refl _ _).alloc _))).mono ?_;rintro e H ⟨M,d,rfl,C,c2,c3,c4,c5⟩;obtain⟨z,f,rfl⟩:=B8g c2 C;have F:=hid (A8c m c5);have y:=hid c2;have D:=hid c3;have u:=c5.size;simp only[World.size_alloc]at u;have r:=hid (((Fr.refl (λ_=>False) w).alloc (.cells (madeCells #[.int .u64 0] (n/32)) 27)).trans c5);clear c2 c3 c5 m C j l c A
 go_wp2_with (first
  |(at_builtin;refine wpList_append_own _ rfl _ _ 226 rfl w.heap.size 27 B (.int .u64 0) 1 8 Tryz.underlying226 x o p q rfl (by decide) _ _ _ rfl F.out ⟨z,0,none⟩ d.length f (usB d) rfl ?c0 ?c1 ?c2 ?c3 ?c4 ?c5 ?_)
  |go_in)
 case c0=>rw[B6j];omega
 case c1=>exact y.1.cells (g:=z) rfl
 case c2=>exact D2n
 case c3=>unfold maxLen;omega
 case c4=>omega
 case c5=>omega
 intro G I b a _
 have t:=hid (show A3q I G (List.replicate (n/32) 0++d)from⟨by
  rw[A6q,List.length_append,List.length_replicate]
  exact A1j b,(A1w.zeros _).append y.2⟩)
 have s:=hid (r.trans' ((Fr.refl (λi=>i=w.heap.size) H).grown a (λk hk=>.inl (by simpa[Value.ownBlock]using hk.symm))) (λi x=>.inr (by omega)));clear b a;go_wp2;go_ret;refine⟨_,_,rfl,t.out,?_,by simp;omega,s.out⟩;rw[C7n,D.out,E5c n,Nat.add_zero,<-Nat.mul_assoc,Nat.mul_comm]
theorem E5d (n E f:Nat) (w:World) (d:n=E*4503599627370496+f) (i:f<4503599627370496) (h:E<=2047):
 Calls Tryz.prog 205 #[.int .u64 (n:Int)] w λe w'=>e=.returned (.tuple #[.int .u64 ((if E=0 then f else f+4503599627370496:Nat):Int),.int .i64 (if E=0 then-1074 else(E:Int)-1075)])/\w'=w:=by
 have g:(n:Int)/4503599627370496=(E:Int):=by omega
 have c:(n:Int) % 4503599627370496=(f:Int):=by omega
 by_cases a:E=0
 ·have b:(E:Int)=0:=by omega
  rw[if_pos a,if_pos a];clear d a;generalize (n:Int)=N at*;go_enter Tryz.func205,Tryz.ntmps205;go_wp2;go_ret2;refine⟨?_,rfl⟩;rw[<-c];rfl
 ·have b:((E:Int)==0)=false:=bqF (by omega)
  rw[if_neg a,if_neg a];clear d a;generalize (n:Int)=N at*;go_enter Tryz.func205,Tryz.ntmps205;go_wp2;go_ret2;refine⟨?_,rfl⟩;rw[Int.natCast_add,<-c];rfl
theorem B1z (n:Nat) (w:World) (a:n<9223372036854775808):
 Calls Tryz.prog 205 #[.int .u64 (n:Int)] w λe w'=>e=.returned (.tuple #[.int .u64 ((A0w n).1:Int),.int .i64 ((A0w n).2-1074:Int)])/\w'=w:=by
 refine(E5d n (n/4503599627370496) (n % 4503599627370496) w (by omega) (by omega) (by omega)).mono ?_;rintro e w' ⟨rfl,rfl⟩;refine⟨?_,rfl⟩;unfold A0w;by_cases h:n/4503599627370496=0
 ·rw[if_pos h,if_pos h,if_pos h]
  simp only;rw[show n % 4503599627370496=n by omega];rfl
 ·rw[if_neg h,if_neg h,if_neg h]
  simp only;rw[Nat.add_comm (n % 4503599627370496),show((n/4503599627370496:Nat):Int)-1075=((n/4503599627370496-1:Nat):Int)-1074 by omega]
theorem A3t {w:World} {a:Addr} {v:Value} (h:w.cell? a=some v):a.block<w.heap.size:=by
 unfold World.cell? at h;split at h
 ·rename_i hh;exact lt_of_block hh
 ·cases h
def A7b (w:World) (v:Value) (A B L:Nat):Prop:=∃va vb xs ys,v=.agg #[va,vb]/\A3q w va xs/\A3q w vb ys/\val xs=A/\val ys=B/\xs.length<=L/\ys.length<=L
theorem A7b.fr {w w':World} {v:Value} {A B L:Nat} (h:A7b w v A B L) (a:Fr (λ_=>False) w w'):A7b w' v A B L:=by
 obtain⟨f,g,xs,ys,b,c,d,e⟩:=h;exact⟨f,g,xs,ys,b,c.fr a,d.fr a,e⟩
theorem E5e (v:Value) (ws:List Nat) (e:Int) (n:Nat) (w w0:World) (b:e=(n:Int)) (f:w0.heap=w.heap) (c:ws.length<=100000000) (d:n<=100000) (a:A3q w0 v ws):
 Calls Tryz.prog 222 #[v,.int .i64 e] w (A9t w (val ws*2^n) (ws.length+n/32+1)):=by
 subst b;exact C9g v ws n w c d ⟨by have:=a.1;unfold World.ownsRow at this ⊢;rw[<-f];exact this,a.2⟩
theorem C9h (v:Value) (A B L n:Nat) (e:Int) (w:World) (hL:L<=10000000) (hn:n<18446744073709551616) (Y: -5000<=e) (Z:e<=5000) (hf:A7b w v A B L):
 Calls Tryz.prog 206 #[v,.int .u64 (n:Int),.int .i64 e] w λr w'=>r=.returned (.int .i64 (A6d (A*2^(-e).toNat) (B*n*2^e.toNat)))/\Fr (λ_=>False) w w':=by
 obtain⟨va,vb,xs,ys,rfl,N,O,x,y,a1,a2⟩:=hf;have U:=hid hn;obtain⟨K,M,P⟩:=A1e N;obtain⟨V,X,Q⟩:=A1e O;have S:=hid N;have T:=hid O;clear N O hn;subst P Q;by_cases he:0<=e
 ·have hr:=hid (show A6d (A*2^(-e).toNat) (B*n*2^e.toNat)=A6d (val xs) (val ys*n*2^e.toNat)from by rw[show(-e).toNat=0 by omega,Nat.pow_zero,Nat.mul_one,x,y])
  have j:=hid (show e=((e.toNat:Nat):Int) by omega);have hk:e.toNat<=5000:=by omega
  clear x y;go_enter Tryz.func206,Tryz.ntmps206
  go_wp2_with fail
  refine(E5b _ ys n _ (by omega) U.out (T.fr ((Fr.refl _ _).alloc _))).mono ?_;rintro r t ⟨v1,b,rfl,m,o,b3,g⟩;have d:=(g.cell (p:=⟨w.heap.size,0,none⟩) (by simp) id).trans (A3d _ _ _ _);simp only[List.getElem?_toArray,List.getElem?_cons_zero]at d;have C:=hid m;have E:=hid o;have c:=hid (((Fr.refl (λ_=>False) w).alloc (.cells #[.slice K xs.length M,.slice V ys.length X] 228)).trans g);clear m o g;have R:w.heap.size<t.heap.size:=by have:=c.size;have:=A3t d;exact this
  go_wp2_with fail
  have i:=hid (show Calls Tryz.prog 222 #[v1,.int .i64 e] t.drew (A9t t.drew (val b*2^e.toNat) (b.length+e.toNat/32+1))from E5e _ b e e.toNat _ t j.out rfl (by omega) (by omega) C.out);have l:=hid (show b.length+e.toNat/32+1<=1000000000 by omega);have H:=hid (λ(z:Value) (a:List Nat) (u:World) (Y:a.length<=1000000000) (Z:A3q u z a) (h3:Fr (λ_=>False) w u)=>B7b (.slice K xs.length M) z xs a u (by omega) Y (S.fr h3) Z);have J:=hid R;have I:=hid d
  go_region_with (first
   |(go_at_call 222;refine Calls.mono i.out ?_;rintro r u ⟨z,a,rfl,q,s,W,h⟩;have F:=hid q;have G:=hid s;have f:=hid (c.drew.trans h);have k:=hid (Nat.le_trans W l.out);have a0:=(h.cell (p:=⟨w.heap.size,0,none⟩) J.out id).trans I.out;clear q s h)
   |(go_at_call 221;refine Calls.mono (H.out _ _ _ k.out F.out f.out) ?_;rintro r w3 ⟨rfl,rfl⟩))
  all_goals
   go_wp2;go_ret;refine⟨?_,f.out⟩;rw[hr.out,<-E.out,<-G.out];rfl
 ·have hr:=hid (show A6d (A*2^(-e).toNat) (B*n*2^e.toNat)=A6d (val xs*2^(-e).toNat) (val ys*n)from by rw[show e.toNat=0 by omega,Nat.pow_zero,Nat.mul_one,x,y])
  have j:=hid (show-e=(((-e).toNat:Nat):Int) by omega);have hk:(-e).toNat<=5000:=by omega
  clear x y;go_enter Tryz.func206,Tryz.ntmps206
  go_wp2_with fail
  refine(E5b _ ys n _ (by omega) U.out (T.fr ((Fr.refl _ _).alloc _))).mono ?_;rintro r t ⟨v1,b,rfl,m,o,b3,g⟩;have d:=(g.cell (p:=⟨w.heap.size,0,none⟩) (by simp) id).trans (A3d _ _ _ _);simp only[List.getElem?_toArray,List.getElem?_cons_zero]at d;have C:=hid m;have E:=hid o;have c:=hid (((Fr.refl (λ_=>False) w).alloc (.cells #[.slice K xs.length M,.slice V ys.length X] 228)).trans g);clear m o g
  go_wp2_with fail
  rw[j.out];refine(C9g _ xs (-e).toNat _ (by omega) (by omega) (S.fr c.out)).mono ?_;rintro r u ⟨z,a,rfl,q,s,W,h⟩;have k:a.length<=1000000000:=by omega
  have F:=hid q;have G:=hid s;have D:=hid (C.fr h);have f:=hid (c.trans h);clear q s h
  go_wp2_with fail
  refine(B7b _ _ a b _ k (by omega) F.out D.out).mono ?_;rintro r w3 ⟨rfl,rfl⟩;go_wp2;go_ret;refine⟨?_,f.out⟩;rw[hr.out,<-E.out,<-G.out];rfl
theorem A3q.set3 {w:World} {v:Value} {ws:List Nat} {e d i:Nat} {t u x y a b c:Value} (h:A3q w v ws) (l:w.heap[e]? =some (.cells #[t,u] 228 (0,0))) (m:w.heap[d]? =some (.cells #[x,y] 228 (0,0))):
 A3q (((w.setCell ⟨e,i,none⟩ a).setCell ⟨d,0,none⟩ b).setCell ⟨d,1,none⟩ c) v ws:=by
 obtain⟨⟨o,j⟩,p⟩:=h;refine⟨⟨o,?_⟩,p⟩;rcases j with j|⟨g,cap,f,r,q,k,hr⟩
 ·exact .inl j
 ·have s:g≠e:=by rintro rfl;rw[k]at l;simp at l
  have n:g≠d:=by rintro rfl;rw[k]at m;simp at m
  exact .inr ⟨g,cap,f,r,q,((Below.heap_setCell _ _ _ _ (by simpa using n)).trans ((Below.heap_setCell _ _ _ _ (by simpa using n)).trans (Below.heap_setCell _ _ _ _ (by simpa using s)))).trans k,hr⟩
theorem C9i (v:Value) (ws:List Nat) (e:Int) (n:Nat) (w:World) (b:e=(n:Int)) (c:ws.length+n<=100000000) (a:A3q w v ws):
 Calls Tryz.prog 208 #[v,.int .i64 e] w (A9t w (val ws*p10 n) (ws.length+n)):=by
 subst b;exact E4z v ws n w c a
theorem C9j (N:Bool) (l:LU8) (X:Int) (L:Nat) (w:World) (Q:l.length<=4000000) (hD:A4h l) (h1: -4000000<=X) (h2:X<=4000000) (hL:(l.length:Int)+X+1<=L/\(l.length:Int)+1<=L/\1-X<=L):
 Calls Tryz.prog 178 #[.agg #[.bool N,.string (ofL l),.int .i64 X]] w λe w'=>∃v,e=.returned v/\A7b w' v (num (dv l)*p10 X.toNat) (p10 (-X).toNat) L/\Fr (λ_=>False) w w':=by
 have P:=hid hL;clear hL;by_cases hX:0<X
 ·have hx:=hid (show X=((X.toNat:Nat):Int) by omega)
  go_enter Tryz.func178,Tryz.ntmps178
  go_wp2_with fail
  refine(C3n l _ (by omega) hD).mono ?_;rintro r a ⟨v1,b,rfl,G,K,b3,y⟩;obtain⟨q,g,rfl⟩:=A1e G;have m:a.heap[w.heap.size]? =some (.cells #[.bool N,.string (ofL l),.int .i64 X] 194 (0,0)):=(y.block w.heap.size (by simp;omega) id).trans ((Below.heap_alloc _ _ _ (by simp)).trans (heap_alloc_new w _));have A:a.cell? ⟨w.heap.size,2,none⟩=some (.int .i64 X):=by simp[World.cell?,m]
  have B:∀J O,((a.alloc J).alloc O).cell? ⟨w.heap.size,2,none⟩=some (.int .i64 X):=by
   intro J O;have Q:=lt_of_block m;rw[World.cell?_of_block (w:=a.alloc J) (Below.heap_alloc _ _ _ (by simp;omega)),World.cell?_of_block (w:=a) (Below.heap_alloc _ _ _ Q)];exact A
  clear m;have z:a.heap[w.heap.size+1]? =some (.cells #[.slice none 0 0,.slice none 0 0] 228 (0,0)):=(y.block (w.heap.size+1) (by simp) id).trans (by have:=heap_alloc_new (w.alloc (.cells #[.bool N,.string (ofL l),.int .i64 X] 194)) (.cells #[.slice none 0 0,.slice none 0 0] 228);rwa[World.size_alloc]at this);have a4:w.heap.size+2<=a.heap.size:=by have:=y.size;simp at this;omega
  have F:=hid z;have R:=hid G;have S:=hid K;have T:=hid y;clear G K y z
  go_wp2_with fail
  have p:A3q ((a.alloc (.cells #[.int .u64 1] 27)).alloc (.cells #[.slice q b.length g,.slice (some ⟨a.heap.size,0,none⟩) 1 1] 228)) (.slice (some ⟨a.heap.size,0,none⟩) 1 1) [1]:=
   A3q.fr ⟨A1j (C0g a (.int .u64 1) 27),A1w.one (by omega)⟩ ((Fr.refl _ _).alloc _)
  have o:=R.fr (((Fr.refl (λ_=>False) a).alloc (.cells #[.int .u64 1] 27)).alloc (.cells #[.slice q b.length g,.slice (some ⟨a.heap.size,0,none⟩) 1 1] 228));have s:=hid o;refine(C9i _ b X X.toNat _ hx.out (by omega) s.out).mono ?_;rintro r C ⟨v2,f,rfl,H,M,c3,n⟩;obtain⟨x,h,rfl⟩:=A1e H;have c:C.heap[a.heap.size+1]? =some (.cells #[.slice q b.length g,.slice (some ⟨a.heap.size,0,none⟩) 1 1] 228 (0,0)):=(n.block (a.heap.size+1) (by simp) id).trans (by have:=heap_alloc_new (a.alloc (.cells #[.int .u64 1] 27)) (.cells #[.slice q b.length g,.slice (some ⟨a.heap.size,0,none⟩) 1 1] 228);rwa[World.size_alloc]at this);have d:C.heap[w.heap.size+1]? =some (.cells #[.slice none 0 0,.slice none 0 0] 228 (0,0)):=(n.block (w.heap.size+1) (by simp;omega) id).trans ((Below.heap_alloc _ _ _ (by simp;omega)).trans ((Below.heap_alloc _ _ _ (by omega)).trans F.out));have g0:=A4r c;have g1:=A4s c;have a0:=A9d (j:=0) c;have a3:=A9d (j:=1) c;have d0:=A4r d;have d1:=A4s d;have W:=A9d (j:=0) d;have Y:=A9d (j:=1) d;have I:w.heap.size+1≠a.heap.size+1:=by omega
  have k:=hid d;have t:=hid c;have U:=hid H;have V:=hid M;have HZ:=hid (p.fr n);have HA:=hid (o.fr n);have D:=hid ((((((Fr.refl (λ_=>False) w).alloc _).alloc _).trans T.out).alloc _).alloc _ |>.trans n);clear H M n c d A B p o s;go_wp2;have i:=D3w (u:=(.slice (some ⟨a.heap.size,0,none⟩) 1 1)) (D3x (u:=(.slice x f.length h)) ((Below.heap_setCell (C) ⟨a.heap.size+1,0,none⟩ (.slice x f.length h) (w.heap.size+1) (by simpa using I)).trans k.out));have Z:=A4r i;have e1:=A4s i;refine bodyPost_ret (v:=.agg #[.slice x f.length h,.slice (some ⟨a.heap.size,0,none⟩) 1 1]) (by simp[results,Tryz.results178,go_sem,Z,e1]) rfl ?_
  have E:Fr (λ_=>False) w (((C.setCell ⟨a.heap.size+1,0,none⟩ (.slice x f.length h)).setCell ⟨w.heap.size+1,0,none⟩ (.slice x f.length h)).setCell ⟨w.heap.size+1,1,none⟩ (.slice (some ⟨a.heap.size,0,none⟩) 1 1)):=
   ((D.setCell (.inr (by simp;omega)) _).setCell (.inr (by simp)) _).setCell (.inr (by simp)) _
  refine⟨_,rfl,⟨_,_,f,[1],rfl,U.set3 t.out k.out,HZ.set3 t.out k.out,?_,?_,by have:=P.out;omega,by have:=P.out;simp;omega⟩,E⟩
  ·rw[V.out,S.out]
  ·rw[show(-X).toNat=0 by omega];rfl
 ·have hx:=hid (show-X=(((-X).toNat:Nat):Int) by omega)
  go_enter Tryz.func178,Tryz.ntmps178
  go_wp2_with fail
  refine(C3n l _ (by omega) hD).mono ?_;rintro r a ⟨v1,b,rfl,G,K,b3,y⟩;obtain⟨q,g,rfl⟩:=A1e G;have m:a.heap[w.heap.size]? =some (.cells #[.bool N,.string (ofL l),.int .i64 X] 194 (0,0)):=(y.block w.heap.size (by simp;omega) id).trans ((Below.heap_alloc _ _ _ (by simp)).trans (heap_alloc_new w _));have A:a.cell? ⟨w.heap.size,2,none⟩=some (.int .i64 X):=by simp[World.cell?,m]
  have B:∀J O,((a.alloc J).alloc O).cell? ⟨w.heap.size,2,none⟩=some (.int .i64 X):=by
   intro J O;have Q:=lt_of_block m;rw[World.cell?_of_block (w:=a.alloc J) (Below.heap_alloc _ _ _ (by simp;omega)),World.cell?_of_block (w:=a) (Below.heap_alloc _ _ _ Q)];exact A
  clear m;have z:a.heap[w.heap.size+1]? =some (.cells #[.slice none 0 0,.slice none 0 0] 228 (0,0)):=(y.block (w.heap.size+1) (by simp) id).trans (by have:=heap_alloc_new (w.alloc (.cells #[.bool N,.string (ofL l),.int .i64 X] 194)) (.cells #[.slice none 0 0,.slice none 0 0] 228);rwa[World.size_alloc]at this);have a4:w.heap.size+2<=a.heap.size:=by have:=y.size;simp at this;omega
  have F:=hid z;have R:=hid G;have S:=hid K;have T:=hid y;clear G K y z
  go_wp2_with fail
  have p:A3q ((a.alloc (.cells #[.int .u64 1] 27)).alloc (.cells #[.slice q b.length g,.slice (some ⟨a.heap.size,0,none⟩) 1 1] 228)) (.slice (some ⟨a.heap.size,0,none⟩) 1 1) [1]:=
   A3q.fr ⟨A1j (C0g a (.int .u64 1) 27),A1w.one (by omega)⟩ ((Fr.refl _ _).alloc _)
  have o:=R.fr (((Fr.refl (λ_=>False) a).alloc (.cells #[.int .u64 1] 27)).alloc (.cells #[.slice q b.length g,.slice (some ⟨a.heap.size,0,none⟩) 1 1] 228));have s:=hid p;refine(C9i _ [1] (-X) (-X).toNat _ hx.out (by simp;omega) s.out).mono ?_;rintro r C ⟨v2,f,rfl,H,M,c3,n⟩;obtain⟨x,h,rfl⟩:=A1e H;have c:C.heap[a.heap.size+1]? =some (.cells #[.slice q b.length g,.slice (some ⟨a.heap.size,0,none⟩) 1 1] 228 (0,0)):=(n.block (a.heap.size+1) (by simp) id).trans (by have:=heap_alloc_new (a.alloc (.cells #[.int .u64 1] 27)) (.cells #[.slice q b.length g,.slice (some ⟨a.heap.size,0,none⟩) 1 1] 228);rwa[World.size_alloc]at this);have d:C.heap[w.heap.size+1]? =some (.cells #[.slice none 0 0,.slice none 0 0] 228 (0,0)):=(n.block (w.heap.size+1) (by simp;omega) id).trans ((Below.heap_alloc _ _ _ (by simp;omega)).trans ((Below.heap_alloc _ _ _ (by omega)).trans F.out));have g0:=A4r c;have g1:=A4s c;have a0:=A9d (j:=0) c;have a3:=A9d (j:=1) c;have d0:=A4r d;have d1:=A4s d;have W:=A9d (j:=0) d;have Y:=A9d (j:=1) d;have I:w.heap.size+1≠a.heap.size+1:=by omega
  have k:=hid d;have t:=hid c;have U:=hid H;have V:=hid M;have HZ:=hid (p.fr n);have HA:=hid (o.fr n);have D:=hid ((((((Fr.refl (λ_=>False) w).alloc _).alloc _).trans T.out).alloc _).alloc _ |>.trans n);clear H M n c d A B p o s;go_wp2;have i:=D3w (u:=(.slice x f.length h)) (D3x (u:=(.slice q b.length g)) ((Below.heap_setCell (C) ⟨a.heap.size+1,1,none⟩ (.slice x f.length h) (w.heap.size+1) (by simpa using I)).trans k.out));have Z:=A4r i;have e1:=A4s i;refine bodyPost_ret (v:=.agg #[.slice q b.length g,.slice x f.length h]) (by simp[results,Tryz.results178,go_sem,Z,e1]) rfl ?_
  have E:Fr (λ_=>False) w (((C.setCell ⟨a.heap.size+1,1,none⟩ (.slice x f.length h)).setCell ⟨w.heap.size+1,0,none⟩ (.slice q b.length g)).setCell ⟨w.heap.size+1,1,none⟩ (.slice x f.length h)):=
   ((D.setCell (.inr (by simp;omega)) _).setCell (.inr (by simp)) _).setCell (.inr (by simp)) _
  refine⟨_,rfl,⟨_,_,b,f,rfl,HA.set3 t.out k.out,U.set3 t.out k.out,?_,?_,by have:=P.out;omega,by have:=P.out;simp at c3;omega⟩,E⟩
  ·rw[S.out,show X.toNat=0 by omega,show p10 0=1 from rfl,Nat.mul_one]
  ·rw[V.out,show val [1]=1 from rfl,Nat.one_mul]
theorem E5f (a:Bool) (l:LU8) (X:Int) (w:World) (f:l.length<=4000000) (d:A4h l) (b: -4000000<=X) (c:X<=4000000):
 Calls Tryz.prog 178 #[.agg #[.bool a,.string (ofL l),.int .i64 X]] w λe w'=>∃v,e=.returned v/\A7b w' v (num (dv l)*p10 X.toNat) (p10 (-X).toNat) 9000000/\Fr (λ_=>False) w w':=
 C9j a l X 9000000 w f d b c (by omega)
end Go.Proofs.YtmkkibaacclhnaaGreatDoor
