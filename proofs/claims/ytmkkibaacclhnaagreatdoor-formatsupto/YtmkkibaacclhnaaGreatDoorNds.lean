/-
  Part Nds.
-/
import Derived.Test.YtmkkibaacclhnaaGreatDoorNce
import Derived.RangeFuncNested
import Derived.RangeFuncBound
import Derived.RangeFuncCalls
import Derived.RangeFuncLeaves
import Derived.Shelf.Abstract
import Derived.Shelf.RegionOpen
import Derived.OwnWalkIn
import Derived.TacticsInMore
import Derived.LoopNIn
import Derived.LoopIn
import Derived.Sort.QuietIn
import Derived.RegionIn
import Derived.Test.YtmkkibaacclhnaaGreatDoorNab
namespace Go.Proofs.YtmkkibaacclhnaaGreatDoor
open Go.RowKit Go.Shelf
set_option maxRecDepth 100000
set_option maxHeartbeats 16000000
attribute [local go_sem] Oper.semAt_some
def B8u (b len k:Nat):Value:=.slice (some ⟨b,9*k,none⟩) (min 9 (len-9*k)) (min 9 (len-9*k))
theorem E1b (b a k:Nat):B8u b a k=.slice (some ⟨b,9*k,none⟩) ((9*(k:Int)+min 9 ((a-9*k:Nat):Int)).toNat-9*k) ((9*(k:Int)+min 9 ((a-9*k:Nat):Int)).toNat-9*k):=by
 have e:min 9 (a-9*k)=(9*(k:Int)+min 9 ((a-9*k:Nat):Int)).toNat-9*k:=by omega
 unfold B8u;rw[e]
def KpC (n₀ Bs Bn:Nat) (A B:World):Prop:=Fr (λi=>¬(i<n₀\/i=Bs\/i=Bn)) A B
theorem E1c (n:Nat) (V:1<=n) (l Bs Bn z b a cap:Nat) (I:a<=1000000) (N:a<=cap) (J Jx:List {j:Nat//9*j<a}->World->Prop) (R:∀s A B,J s A->A.grownBy B none->J s B)
 (S:∀pre (x:{j:Nat//9*j<a}) W,J pre W->pre.length<(a+8)/9->YieldAt Fence.wide (n-1) Tryz.prog l #[B8u b a x.1] W λe W'=>
   (e=.returned (.bool true)/\J (pre++[x]) W'/\KpC z Bs Bn W W')\/(e=.returned (.bool false)/\Jx (pre++[x]) W'))
 (W:World) (o:Bs<W.heap.size) (f:Bn<W.heap.size) (D:W.cell? ⟨Bs,0,none⟩=some (.slice (some ⟨b,0,none⟩) a cap)) (u:W.cell? ⟨Bn,0,none⟩=some (.int .i64 9)) (U:J [] W):
 CallsIn Fence.wide n Tryz.prog 217 #[.func (.yield l) #[] #[],.pointer (some ⟨Bs,0,none⟩),.pointer (some ⟨Bn,0,none⟩)] W λe W'=>(∃v,e=.returned v)/\
  ((∃xs:List {j:Nat//9*j<a},xs.map (·.1)=List.range ((a+8)/9)/\J xs W')\/(∃pre,True/\Jx pre W')):=by
 refine callsIn_of_wp Tryz.func217 rfl trivial ?_ rfl;simp only[Tryz.ntmps217,List.size_toArray,List.length_cons,List.length_nil,Nat.reduceAdd,Nat.reduceSub,Array.replicate_succ,Array.replicate_zero,List.push_toArray,List.append_toArray,List.nil_append,List.cons_append]
 gi_wp2
 gi_loopw [4] (λi wr=>∃(k:Nat) (xs:List {j:Nat//9*j<a}),9*k<a+9/\i=.int .i64 (9*k:Nat)/\Hid (xs.map (·.1)=List.range k)/\J xs wr/\KpC z Bs Bn W wr)
  (λi _=>a+9-(intOf i).toNat)
 case atStart=>exact⟨0,[],by omega,rfl,rfl,U,Fr.refl _ _⟩
 case round=>
  obtain⟨k,xs,Y,rfl,m,t,d⟩:=hrel;have F:=(Fr.cell d (p:=⟨Bs,0,none⟩) o (by simp)).trans D;have L:=(Fr.cell d (p:=⟨Bn,0,none⟩) f (by simp)).trans u;have h:xs.length=k:=by have:=congrArg List.length m.out;simpa using this
  by_cases w:9*k<a
  ·obtain⟨X,M,y,O,G,Q⟩:=S xs ⟨k,w⟩ wr.drew (R _ wr wr.drew t ⟨rfl,rfl,rfl,Nat.le_refl _,λ_ _ _=>rfl⟩) (by omega)
   have H:9*(k:Int)<a:=by omega
   dsimp only at G
   rw[E1b]at G;have K:Hid _:=h;clear h
   gi_wp2_with fail
   gi_region
   gi_wp2
   refine Q.mono ?_;rintro e T (⟨rfl,C,c⟩|⟨rfl,q⟩)
   ·have g:KpC z Bs Bn W T:=Fr.trans d ⟨c.os,c.tape,c.output,c.size,c.block⟩
    have P:=(Fr.cell g (p:=⟨Bn,0,none⟩) f (by simp)).trans u;have E:Hid _:=g;clear g c d
    gi_wp2
    go_roundw
    case rel=>exact⟨k+1,xs++[⟨k,w⟩],by omega,by go_num,by show _=_;rw[List.map_append,m.out,List.range_succ];rfl,C,E.out⟩
    case measure=>simp[intOf];omega
   ·gi_wp2
    refine bodyPost_ret (results_none rfl _ _ _) rfl ?_;exact⟨⟨_,rfl⟩,.inr ⟨_,trivial,q⟩⟩
  ·have r:k=(a+8)/9:=by omega
   have K:Hid _:=r;clear r h
   gi_wp2
   go_end0;exact⟨⟨_,rfl⟩,.inl ⟨xs,by rw[<-K.out];exact m.out,t⟩⟩
theorem E1d (a:Option Addr) (b cap:Nat) (w:World):
 Calls Tryz.prog 195 #[.slice a b cap,.int .i64 9] w λe w'=>e=.returned (.func (.func 217) #[] #[.pointer (some ⟨w.heap.size,0,none⟩),.pointer (some ⟨w.heap.size+1,0,none⟩)])/\w'=(w.alloc (.cells #[.slice a b cap] 65)).alloc (.cells #[.int .i64 9] 3):=by
 go_enter Tryz.func195,Tryz.ntmps195;go_wp2;go_ret;exact⟨rfl,rfl⟩
attribute [local go_sem] Oper.semAt_some
theorem C4j {P:List Nat->Prop} (b:P []) (h:∀a x,P a->P (a++[x])) (l:List Nat):P l:=by
 rw[<-List.reverse_reverse l]
 induction l.reverse with
 |nil=>exact b
 |cons x r ih=>rw[List.reverse_cons];exact h _ _ ih
def num (ds:List Nat):Nat:=ds.foldl (λa d=>a*10+d) 0
theorem A4x (a:List Nat) (d:Nat):num (a++[d])=num a*10+d:=by simp[num]
theorem A2s (a b:List Nat):num (a++b)=num a*p10 b.length+num b:=by
 refine C4j (P:=λb=>num (a++b)=num a*p10 b.length+num b) ?_ ?_ b
 ·simp[num,p10]
 ·intro b x c
  rw[<-List.append_assoc,A4x,A4x,c,List.length_append,List.length_singleton,A1z,Nat.add_mul,Nat.mul_assoc,Nat.add_assoc]
def B0m (ds:List Nat):Prop:=∀d∈ds,d<=9
theorem A7i (a:List Nat) (h:B0m a):num a<p10 a.length:=by
 refine C4j (P:=λa=>B0m a->num a<p10 a.length) ?_ ?_ a h
 ·intro _;simp[num,p10]
 ·intro b x c h
  have e:=c (λd hd=>h d (List.mem_append_left _ hd));have f:=h x (by simp);rw[A4x,List.length_append,List.length_singleton,A1z];omega
def A3w (ds:List Nat) (k:Nat):List Nat:=(ds.drop (9*k)).take 9
def B7k (ds:List Nat) (pre:List Nat):Nat:=pre.foldl (λa k=>p10 (A3w ds k).length*a+num (A3w ds k)) 0
theorem B5r (b a:List Nat) (k:Nat):B7k b (a++[k])=p10 (A3w b k).length*B7k b a+num (A3w b k):=by simp[B7k]
theorem B2f (a:List Nat) (k:Nat):(A3w a k).length=min 9 (a.length-9*k):=by simp[A3w]
theorem B0m.chunk {a:List Nat} (h:B0m a) (k:Nat):B0m (A3w a k):=λd hd=>h d (List.mem_of_mem_drop (List.mem_of_mem_take hd))
theorem E8y (c a:List Nat) (h:B0m c):B7k c a<p10 (9*a.length):=by
 refine C4j (P:=λa=>B7k c a<p10 (9*a.length)) ?_ ?_ a
 ·simp[B7k,p10]
 ·intro b x f
  have g:=A7i _ (h.chunk x);have e:=A3r (A3w c x).length 9 (by rw[B2f];omega);rw[B5r,List.length_append,List.length_singleton,Nat.mul_add,A1h,Nat.mul_comm (p10 (9*b.length))];have d:p10 (A3w c x).length*(B7k c b+1)<=p10 (9*1)*p10 (9*b.length):=Nat.mul_le_mul e (by omega);rw[Nat.mul_add]at d;omega
theorem D0y (a:List Nat) (k:Nat):B7k a (List.range k)=num (a.take (9*k)):=by
 induction k with
 |zero=>simp[B7k,num]
 |succ k ih=>
  rw[List.range_succ,B5r,ih,Nat.mul_add,Nat.mul_one,List.take_add,A2s,Nat.mul_comm];rfl
theorem G0c (m k:Nat) (h:k<=32*m):2^k<=4294967296^m:=by rw[F6c];exact Nat.pow_le_pow_right (by omega) h
theorem F4s (n k:Nat) (a:k<=32000) (h:n<2^k):Sm n:=Nat.lt_of_lt_of_le h (G0c 1000 k a)
theorem E1e (k:Nat):p10 k<=2^(4*k):=by
 rw[Nat.pow_mul];exact Nat.pow_le_pow_left (by omega) k
theorem E1f (n k:Nat) (a:k<=3000) (h:n<p10 k):Sm n:=F4s n (4*k) (by omega) (Nat.lt_of_lt_of_le h (E1e k))
def C4k (w:World) (b:Nat) (ds:List Nat):Prop:=∀j,(h:j<ds.length)->w.cell? ⟨b,j,none⟩=some (.int .u8 ((48+ds[j]:Nat):Int))
theorem KeepsOthers.ofFr {W a:World} {S:Nat->Prop} (h:Fr S W a) (c:∀i o,S i->W.heap[i]? =some o->o.isCells=true):KeepsOthers W a:=by
 refine⟨h.size,λk o hk ho=>?_⟩;have b:=h.block k (lt_of_block hk) (λhs=>by rw[c k o hs hk]at ho;cases ho);rw[b];exact hk
theorem Nt.cells {w:World} {b g N:Nat} (h:Nt w b g N):(∀o,w.heap[b]? =some o->o.isCells=true)/\(∀o,w.heap[g]? =some o->o.isCells=true):=by
 obtain⟨ws,⟨cap,T,i,j,k⟩,_⟩:=h;refine⟨λo ho=>by rw[i]at ho;cases ho;rfl,λo ho=>?_⟩;rcases j.2 with⟨e,_⟩|⟨l,a,d,c,_,f,_⟩
 ·simp at e
 ·simp at c;obtain⟨rfl,rfl⟩:=c;rw[f]at ho;cases ho;rfl
theorem Nt.grown {w w':World} {b g N:Nat} {a:Option Nat} (h:Nt w b g N) (c:w.grownBy w' a) (hr:∀r,a=some r->∃o:Obj,w.heap[r]? =some o/\o.isCells=false):Nt w' b g N:=by
 have j:=h.cells;have l:Fr (λi=>some i=a) w w':=⟨c.os,c.tape,c.output,c.size,λk hk hs=>c.block k hk hs⟩;refine h.frame l ?_ ?_
 ·intro e;obtain⟨o,f,d⟩:=hr b e.symm;rw[j.1 o f]at d;cases d
 ·intro e;obtain⟨o,f,d⟩:=hr g e.symm;rw[j.2 o f]at d;cases d
theorem C4m (n:Nat) (hn:5<=n) (b a cap:Nat) (g:List Nat) (w:World) (P:B0m g) (hl:g.length=a) (a8:a<=2000) (T:a<=cap) (hb:b<w.heap.size) (hB:C4k w b g):
 CallsIn Fence.wide n Tryz.prog 160 #[.slice (some ⟨b,0,none⟩) a cap] w λe w'=>∃q Y,e=.returned (.pointer (some ⟨q,0,none⟩))/\Nt w' q Y (num g)/\Fr (λ_=>False) w w'/\w.heap.size<=q/\w.heap.size<=Y:=by
 have h1:1<=n:=by omega
 refine callsIn_of_wp_marks Tryz.func160 rfl trivial ?_ rfl;simp only[Tryz.ntmps160,List.size_toArray,List.length_cons,List.length_nil,Nat.reduceAdd,Nat.reduceSub,Array.replicate_succ,Array.replicate_zero,List.push_toArray,List.append_toArray,List.nil_append,List.cons_append]
 gi_wp2_with (first|(refine⟨trivial,?_⟩;gi_at_call 111;refine(callsIn_wide.2 (B4d 0 _ (by omega))).mono ?_;rintro e f ⟨q,Y,rfl,q1,q2,q3,q4⟩)|(refine⟨trivial,?_⟩;gi_at_call 195;refine(callsIn_wide.2 (E1d _ _ _ _)).mono ?_;rintro e w' ⟨rfl,rfl⟩))
 have a5:=q1.lt;have b5:w.heap.size<=f.heap.size:=q2.size
 have C:Nt (((f.alloc (Obj.cells #[Value.pointer (some {block:=q,off:=0})] 141)).alloc (Obj.cells #[Value.slice (some {block:=b,off:=0}) a cap] 65)).alloc (Obj.cells #[Value.int IntKind.i64 9] 3)) q Y 0:=
  q1.frame ((((Fr.refl (λ_=>False) f).alloc _).alloc _).alloc _) id id
 have Q:Fr (λi=>w.heap.size<=i) w (((f.alloc (Obj.cells #[Value.pointer (some {block:=q,off:=0})] 141)).alloc (Obj.cells #[Value.slice (some {block:=b,off:=0}) a cap] 65)).alloc (Obj.cells #[Value.int IntKind.i64 9] 3)):=
  (((q2.alloc _).alloc _).alloc _).mono (λ_ h=>h.elim)
 have G:(((f.alloc (Obj.cells #[Value.pointer (some {block:=q,off:=0})] 141)).alloc (Obj.cells #[Value.slice (some {block:=b,off:=0}) a cap] 65)).alloc (Obj.cells #[Value.int IntKind.i64 9] 3)).heap[f.heap.size]? =some (.cells #[.pointer (some ⟨q,0,none⟩)] 141 (0,0)):=by
  rw[Below.heap_alloc _ _ _ (by simp;omega),Below.heap_alloc _ _ _ (by simp)];exact heap_alloc_new f _
 have Z:(((f.alloc (Obj.cells #[Value.pointer (some {block:=q,off:=0})] 141)).alloc (Obj.cells #[Value.slice (some {block:=b,off:=0}) a cap] 65)).alloc (Obj.cells #[Value.int IntKind.i64 9] 3)).heap[f.heap.size+1]? =some (.cells #[.slice (some ⟨b,0,none⟩) a cap] 65 (0,0)):=by
  rw[Below.heap_alloc _ _ _ (by simp)];have:=heap_alloc_new (f.alloc (Obj.cells #[Value.pointer (some {block:=q,off:=0})] 141)) (Obj.cells #[Value.slice (some {block:=b,off:=0}) a cap] 65);rwa[World.size_alloc]at this
 have O:(((f.alloc (Obj.cells #[Value.pointer (some {block:=q,off:=0})] 141)).alloc (Obj.cells #[Value.slice (some {block:=b,off:=0}) a cap] 65)).alloc (Obj.cells #[Value.int IntKind.i64 9] 3)).heap[f.heap.size+1+1]? =some (.cells #[.int .i64 9] 3 (0,0)):=by
  have:=heap_alloc_new ((f.alloc (Obj.cells #[Value.pointer (some {block:=q,off:=0})] 141)).alloc (Obj.cells #[Value.slice (some {block:=b,off:=0}) a cap] 65)) (Obj.cells #[Value.int IntKind.i64 9] 3);rwa[World.size_alloc,World.size_alloc]at this
 have b1:(((f.alloc (Obj.cells #[Value.pointer (some {block:=q,off:=0})] 141)).alloc (Obj.cells #[Value.slice (some {block:=b,off:=0}) a cap] 65)).alloc (Obj.cells #[Value.int IntKind.i64 9] 3)).heap.size=f.heap.size+3:=by simp
 generalize ((f.alloc (Obj.cells #[Value.pointer (some {block:=q,off:=0})] 141)).alloc (Obj.cells #[Value.slice (some {block:=b,off:=0}) a cap] 65)).alloc (Obj.cells #[Value.int IntKind.i64 9] 3)=W0 at*
 refine wpIn_rangeFunc_ownF (F:=Fence.wide) rfl h1 (gf:=217) (lb:=#[.pointer (some ⟨f.heap.size+1,0,none⟩),.pointer (some ⟨f.heap.size+1+1,0,none⟩)]) rfl trivial (enters_of Tryz.func217 (by kernel_rfl) rfl)
  (encs:=λx:{j:Nat//9*j<a}=>#[B8u b a x.1]) (Kp:=KpC w.heap.size (f.heap.size+1) (f.heap.size+1+1)) (S:=λxs=>xs.map (·.1)=List.range ((a+8)/9)) (Sp:=λ_=>True) (N:=(a+8)/9) (w0:=W0)
  (λl J Jx W hW hJ _ hY h0=>E1c (n-1) (by omega) l _ _ w.heap.size b a cap (by omega) T J Jx (λs A B hs L=>hJ s A B none hs L (λr e=>by cases e)) hY W (by have:=hW.size;omega) (by have:=hW.size;omega)
    ((hW.cell (p:=⟨f.heap.size+1,0,none⟩) (by show _<_;simp;omega)).trans (cell_of_one Z)) ((hW.cell (p:=⟨f.heap.size+1+1,0,none⟩) (by show _<_;simp;omega)).trans (cell_of_one O)) h0)
  Fr.trans ?kb (Below.refl _ _) (λ_=>rfl)
  (λy W=>∃m,w.heap.size<=m/\(m<f.heap.size\/f.heap.size+3<=m)/\Nt W q m (B7k g (y.map (·.1)))/\W.heap[f.heap.size]? =some (.cells #[.pointer (some ⟨q,0,none⟩)] 141 (0,0))/\Fr (λi=>w.heap.size<=i) w W/\f.heap.size+3<=W.heap.size)
  (λ_ _ _=>False) ?own (λ_ _ _ _ _ hs _ _=>hs) ⟨Y,q4,.inl a5.2.1,C,G,Q,by omega⟩
  (λx=>{tmps:=#[Value.slice (some {block:=b,off:=0}) a cap,undef,Value.pointer none,
    Value.pointer (some {block:=f.heap.size,off:=0}),B8u b a x.1,undef,undef,undef,undef,
    Value.pointer (some {block:=q,off:=0}),Value.slice (some {block:=b,off:=0}) a cap,
    Value.func (Fn.func 217) #[]
     #[Value.pointer (some {block:=f.heap.size+1,off:=0}),
      Value.pointer (some {block:=f.heap.size+1+1,off:=0})],
    B8u b a x.1,undef,undef,undef,undef,undef,undef,undef,undef,undef,undef,undef,undef,undef,undef,
    undef,undef,undef,undef,undef,undef],defers:=[]}) ?assign ?body ?done ?stop
 case kb=>
  intro W l o o' hl ho h1 h2;exact(Fr.refl _ W).grown (grownBy_putObj' W l o') (λk e=>by cases e;exact .inl (by omega))
 case own=>
  rintro s A B b3 ⟨m,e1,e2,H,E,t,e6⟩ L hr;refine⟨m,e1,e2,H.grown L (λr e=>(hr r e).2),?_,t.grown L (λk e=>.inl (by have:=(hr k e).1;omega)),by have:=L.size;omega⟩;rw[L.block _ (lt_of_block E) (λe=>by have:=(hr _ e.symm).1;omega)];exact E
 case assign=>
  intro l x W K hK
  gi_wp2
  exact hK
 case body=>
  rintro l y ⟨k,hk⟩ W ⟨m,e1,e2,H,E,t,e6⟩ a9;have a3:=cell_of_one E;have hm:B8u b a k=.slice (some ⟨b,9*k,none⟩) (A3w g k).length (A3w g k).length:=by rw[B2f,hl];rfl
  have b6:(A3w g k).length<=9:=by rw[B2f];omega
  have I:∀i,(hi:i<(A3w g k).length)->W.cell? ⟨b,9*k+i,none⟩=some (.int .u8 ((48+(A3w g k)[i]:Nat):Int)):=by
   intro i hi;have a7:9*k+i<g.length:=by rw[B2f]at hi;omega
   rw[t.cell (p:=⟨b,9*k+i,none⟩) hb (by simpa using hb),hB _ a7];congr 4;simp[A3w]
  have R:=P.chunk k;have U:Sm (B7k g (y.map (·.1))):=E1f _ (9*(y.map (·.1)).length) (by simp;omega) (E8y g _ P);have E3:Hid _:=H;have E5:Hid _:=t;have Hsm:Hid _:=U;have b0:=H.lt;clear H t U Z O Q C G q1 q2
  dsimp only
  rw[hm]
  gi_wp2
  gi_loop [5,6,8,15] (λu v _ ix=>∃i:Nat,i<=(A3w g k).length/\u=.int .u32 (p10 i:Nat)/\v=.int .u32 (num ((A3w g k).take i):Nat)/\ix=.int .i64 i) (λ_ _ _ ix=>(A3w g k).length-(intOf ix).toNat)
  case atStart=>exact⟨0,by omega,rfl,rfl,rfl⟩
  case round=>
   obtain⟨i,hi,rfl,rfl,rfl⟩:=hrel;have a1:=A7i _ (λd hd=>R d (List.mem_of_mem_take (i:=i) hd));rw[List.length_take_of_le hi]at a1;by_cases z:i<(A3w g k).length
   ·have hp:=A3r i 8 (by omega)
    have h8:p10 8=100000000:=rfl;rw[h8]at hp;have b4:=I i z;have b2:=R _ (List.getElem_mem z);have a2:Hid (p10 (i+1)=p10 i*10):=A1z i;have a6:Hid (num ((A3w g k).take (i+1))=num ((A3w g k).take i)*10+(A3w g k)[i]):=by rw[Hid,List.take_succ_eq_append_getElem z,A4x]
    gi_wp2
    go_round
    case rel=>exact⟨i+1,z,by rw[a2.out];go_num,by rw[a6.out];go_num,by go_num⟩
    case measure=>simp[intOf];omega
   ·have M:i=(A3w g k).length:=by omega
    have hp:=A3r i 9 (by omega);have h9:p10 9=1000000000:=rfl;rw[h9]at hp;have a4:=A0v i;have HI:Hid _:=M;clear M
    gi_wp2_with fail
    refine⟨trivial,λ_=>by omega,?_⟩;refine(CallsIn.inRound l (callsIn_wide.2 (A6w q m _ (p10 i) (num ((A3w g k).take i)) _ Hsm.out (by omega) a4 (by omega) E3.out))).mono ?_;rintro e w' ⟨rfl,g2,r1,X,r3⟩
    gi_wp2
    have a0:=Nt.cells E3.out;refine⟨KeepsOthers.ofFr X (λj o hj ho=>by rcases hj with rfl|rfl;exact a0.1 o ho;exact a0.2 o ho),X.mono (λj hj=>by omega),g2,?_,?_,?_,?_,?_,?_⟩
    ·have:=E5.size;omega
    ·omega
    ·rw[List.map_append,List.map_singleton,B5r]
     rw[HI.out,List.take_length]at r1;exact r1
    ·rw[X.block _ (lt_of_block E) (by omega)];exact E
    ·exact E5.trans' X (λj hj=>.inl (by omega))
    ·have:=X.size;omega
 case done=>
  rintro D ys W hD hS ⟨m,e1,e2,H,E,t,e6⟩ hK;have a3:=cell_of_one E
  gi_wp2
  refine⟨by simp,.inl ⟨_,_,rfl,run_takeDeferred hK,?_⟩⟩;refine⟨_,results_tmp rfl _ _ _,q,m,rfl,?_,?_,q3,e1⟩
  ·have V:B7k g (ys.map (·.1))=num g:=by rw[hS,D0y,List.take_of_length_le (by omega)]
   rw[<-V];exact H.grown (grownBy_putObj' W D _) (λr e=>by cases e;exact⟨_,hK,rfl⟩)
  ·exact⟨t.os,t.tape,t.output,by have:=t.size;simpa using this,λk hk _=>by
    have h3:=t.block k hk (by omega);rw[<-h3]
    exact(grownBy_putObj' W D _).block k (by have:=t.size;omega) (by intro e;cases e;omega)⟩
 case stop=>
  rintro D c y W _ _ h _;exact h.elim
theorem C4n (b a cap:Nat) (d:List Nat) (w:World) (g:B0m d) (h:d.length=a) (f:a<=2000) (c:a<=cap) (i:b<w.heap.size) (j:C4k w b d):
 Calls Tryz.prog 160 #[.slice (some ⟨b,0,none⟩) a cap] w λe w'=>∃bm gm,e=.returned (.pointer (some ⟨bm,0,none⟩))/\Nt w' bm gm (num d)/\Fr (λ_=>False) w w'/\w.heap.size<=bm/\w.heap.size<=gm:=
 callsIn_wide.1 (C4m 5 (by omega) b a cap d w g h f c i j)
theorem G0d (x y c:Nat):bo x y c<=1:=by unfold bo;split<;>omega
theorem G3q (x m y:Nat) (a:x<4294967296) (c:m<4294967296) (b:y<=1):x+4294967296*bo x m y=(x+8589934592-m-y) % 4294967296+m+y:=by
 unfold bo;split<;>omega
theorem B7w (ws:List Nat) (k:Nat):val (ws.take (k+1))=val (ws.take k)+4294967296^k*(ws[k]?.getD 0):=by
 by_cases h:k<ws.length
 ·rw[List.take_succ_eq_append_getElem h,A5q,List.length_take_of_le (by omega),List.getElem?_eq_getElem h];rfl
 ·rw[List.take_of_length_le (by omega),List.take_of_length_le (by omega),List.getElem?_eq_none (by omega)];simp
theorem F6d (ws ms c:List Nat) (k x m y:Nat) (l:k<ws.length) (g:ws[k]=x) (o:ms[k]?.getD 0=m) (b:x<4294967296) (a:m<4294967296) (n:y<=1) (i:c.length=k) (h:val (ws.take k)+4294967296^k*y=val c+val (ms.take k)):
 val (ws.take (k+1))+4294967296^(k+1)*bo x m y=val (c++[(x+8589934592-m-y) % 4294967296])+val (ms.take (k+1)):=by
 have f:ws[k]?.getD 0=x:=by rw[List.getElem?_eq_getElem l,Option.getD_some,g]
 rw[B7w,B7w,A5q,i,o,f];have e:=G3q x m y b a n;generalize (x+8589934592-m-y) % 4294967296=d at*;have j:=congrArg (λt=>4294967296^k*t) e;simp only[Nat.mul_add]at j;rw[Nat.pow_succ,Nat.mul_assoc];omega
theorem D3v {w wr:World} {b g cap T:Nat} {ws ms d:List Nat} {y k x m:Nat} (n:k<ws.length) (p:ws[k]=x) (r:ms[k]?.getD 0=m) (j:x<4294967296) (h:m<4294967296) (a:d.length=k) (f:A1w d) (o:y<=1)
 (q:val (ws.take k)+4294967296^k*y=val d+val (ms.take k)) (u:wr.heap[b]? =some (.cells #[.slice (some ⟨g,0,none⟩) ws.length cap] T (0,0)))
 (s:wr.ownsRow 0 127 1 (.slice (some ⟨g,0,none⟩) ws.length cap) ws.length (vs (d++ws.drop k))) (t:Fr (λi=>i=b\/i=g) w wr) (l:b≠g):
 ∃(c:List Nat),c.length=k+1/\A1w c/\val (ws.take (k+1))+4294967296^(k+1)*bo x m y=val c+val (ms.take (k+1))/\
  (wr.setCell ⟨g,k,none⟩ (.int .u32 (((x+8589934592-m-y:Nat):Int) % 4294967296))).heap[b]? =some (.cells #[.slice (some ⟨g,0,none⟩) ws.length cap] T (0,0))/\
  (wr.setCell ⟨g,k,none⟩ (.int .u32 (((x+8589934592-m-y:Nat):Int) % 4294967296))).ownsRow 0 127 1 (.slice (some ⟨g,0,none⟩) ws.length cap) ws.length (vs (c++ws.drop (k+1)))/\
  Fr (λi=>i=b\/i=g) w (wr.setCell ⟨g,k,none⟩ (.int .u32 (((x+8589934592-m-y:Nat):Int) % 4294967296))):=by
 refine⟨d++[(x+8589934592-m-y) % 4294967296],by simp[a],f.append (A1w.one (by omega)),F6d ws ms d k x m y n p r j h o a q,?_,?_,t.setCell (.inl (.inr rfl)) _⟩
 ·rw[Below.heap_setCell _ _ _ _ (by simpa using l)];exact u
 ·have:=(s.stored k (.int .u32 (((x+8589934592-m-y:Nat):Int) % 4294967296))).1
  have e:(vs (d++ws.drop k)).set k (.int .u32 (((x+8589934592-m-y:Nat):Int) % 4294967296))=vs (d++[(x+8589934592-m-y) % 4294967296]++ws.drop (k+1)):=by
   rw[List.drop_eq_getElem_cons n,vs,vs];simp only[List.map_append,List.map_cons,List.append_assoc,List.cons_append,List.nil_append];rw[List.set_append_right _ _ (by simp[a]),List.length_map,a,Nat.sub_self,List.set_cons_zero];rfl
  rwa[e]at this
theorem C7p (b g c h:Nat) (ws ms:List Nat) (w:World) (hl:ws.length<=1000) (_hl2:ms.length<=1000) (I:A1w ws) (M:A1w ms) (a5:val ms<=val ws) (D:ms.length<=ws.length) (hN:A6f w b g ws) (hM:A6f w c h ms) (n1:c≠b) (n2:c≠g) (n3:h≠b) (n4:h≠g):
 Calls Tryz.prog 118 #[.pointer (some ⟨b,0,none⟩),.pointer (some ⟨c,0,none⟩)] w λe w'=>e=.returned (.tuple #[])/\Nt w' b g (val ws-val ms)/\Fr (λi=>i=b\/i=g) w w':=by
 obtain⟨cap,T,hb,ho,v⟩:=hN;have a1:=hM;obtain⟨Z,T2,K,u,a0⟩:=hM;have a4:=cell_of_one hb;have R:=A2a u;have Y:=A2a ho;go_enter Tryz.func118,Tryz.ntmps118;go_wp2
 go_loopw [4,12] (λcy i wr=>∃(k:Nat) (p:List Nat) (y:Nat),k<=ws.length/\p.length=k/\A1w p/\y<=1/\Hid (val (ws.take k)+4294967296^k*y=val p+val (ms.take k))/\cy=.int .u32 y/\i=.int .i64 k/\
  wr.heap[b]? =some (.cells #[.slice (some ⟨g,0,none⟩) ws.length cap] T (0,0))/\wr.ownsRow 0 127 1 (.slice (some ⟨g,0,none⟩) ws.length cap) ws.length (vs (p++ws.drop k))/\Fr (λi=>i=b\/i=g) w wr)
  (λ_ i _=>ws.length-(intOf i).toNat)
 case atStart=>exact⟨0,[],0,Nat.zero_le _,rfl,A1w.nil,by omega,(by simp[Hid,val]),rfl,rfl,hb,(by simpa using ho),Fr.refl _ _⟩
 case round=>
  obtain⟨k,p,y,hk,f,q,A,z,rfl,rfl,o,d,r⟩:=hrel;have W:=cell_of_one o;by_cases j:k<ws.length
  ·have G:ws[k]<4294967296:=I _ (List.getElem_mem j)
   have a2:wr.cell? ⟨g,k,none⟩=some (.int .u32 (ws[k]:Nat)):=by
    rw[d.cellAt k (by omega),vs,List.getElem?_map,List.getElem?_append_right (by omega),f,Nat.sub_self,List.getElem?_drop,Nat.add_zero,List.getElem?_eq_getElem j];rfl
   have a6:=d.frozenAt k;have n:=r.heap K (by omega);have S:=cell_of_one n;have l:=A9a rfl u (r.block h (A9u u) (by omega));by_cases t:k<ms.length
   ·have U:ms[k]<4294967296:=M _ (List.getElem_mem t)
    have a3:=B2e l k t;obtain⟨s,J,O,F,B,C,E⟩:=D3v (ms:=ms) (m:=ms[k]) j rfl (by rw[List.getElem?_eq_getElem t];rfl) G U f q A z.out o d r v;have L:Hid _:=F;have N:Hid _:=B;have P:Hid _:=C;have H:Hid _:=E;clear F B C E d r z l n;have x:=G0d ws[k] ms[k] y
    go_wp2_with fail
    go_region_with (go_at_call 170;refine(C7m _ _ _ _ G U A).mono ?_;rintro e w' ⟨rfl,rfl⟩)
    all_goals go_wp2
    all_goals go_roundw
    all_goals first
     |exact⟨k+1,s,_,j,J,O,x,L.out,rfl,by go_num,N.out,P.out,H.drew⟩
     |(simp[intOf];omega)
   ·obtain⟨s,J,O,F,B,C,E⟩:=D3v (ms:=ms) (m:=0) j rfl (by rw[List.getElem?_eq_none (by omega)];rfl) G (by omega) f q A z.out o d r v
    have L:Hid _:=F;have N:Hid _:=B;have P:Hid _:=C;have H:Hid _:=E;clear F B C E d r z l n;have x:=G0d ws[k] 0 y
    go_wp2_with fail
    go_region_with (go_at_call 170;refine(C7m _ 0 _ _ G (by omega) A).mono ?_;rintro e w' ⟨rfl,rfl⟩)
    all_goals go_wp2
    all_goals go_roundw
    all_goals first
     |exact⟨k+1,s,_,j,J,O,x,L.out,rfl,by go_num,N.out,P.out,H.drew⟩
     |(simp[intOf];omega)
  ·have Q:k=ws.length:=by omega
   have X:Hid _:=z;clear z;subst Q;simp only[List.drop_length,List.append_nil]at d;rw[List.take_length,List.take_of_length_le D]at X
   have hv:y=0/\val p=val ws-val ms:=by
    have e:=X.out;have a:=C7j p q;rw[f]at a;rcases Nat.le_one_iff_eq_zero_or_eq_one.1 A with rfl|rfl
    ·exact⟨rfl,by omega⟩
    ·exfalso;rw[Nat.mul_one]at e;omega
   have HV:Hid _:=hv;clear hv;have V:A6f wr b g p:=⟨cap,T,by rw[f];exact o,by rw[f];exact d,v⟩;have HI:Hid _:=V;clear V
   go_wp2_with (go_at_call 167;refine(E0w b g p _ (by omega) q HI.out).mono ?_;rintro e w' ⟨rfl,q1,q2⟩)
   go_end0;exact⟨rfl,by rw[<-HV.2];exact q1,r.trans' q2 (λi hi=>.inl (.inl hi))⟩
theorem B8v (b g c h N M:Nat) (w:World) (l:Sm N) (d:Sm M) (j:M<=N) (o:Nt w b g N) (s:Nt w c h M) (n:c≠b) (u:c≠g) (v:h≠b) (t:h≠g):
 Calls Tryz.prog 118 #[.pointer (some ⟨b,0,none⟩),.pointer (some ⟨c,0,none⟩)] w λe w'=>e=.returned (.tuple #[])/\Nt w' b g (N-M)/\Fr (λi=>i=b\/i=g) w w':=by
 obtain⟨ws,x,k,y,rfl⟩:=o;obtain⟨ms,p,r,m,rfl⟩:=s;have a:=l.len y;have q:=d.len m;clear l d;refine C7p b g c h ws ms w a q k r j ?_ x p n u v t;rcases Nat.lt_or_ge ws.length ms.length with f|f
 ·have:=A8h ws ms k m f;omega
 ·exact f
def E1g (w:World):List (Nat×Nat×Nat)->Prop
 |[]=>True
 |t::r=>Nt w t.1 t.2.1 t.2.2/\(∀u∈r,t.1≠u.1/\t.1≠u.2.1/\t.2.1≠u.1/\t.2.1≠u.2.1)/\E1g w r
theorem E1g.perm {w:World} {l j:List (Nat×Nat×Nat)} (p:l.Perm j):E1g w l->E1g w j:=by
 induction p with
 |nil=>exact id
 |cons x p ih=>rintro⟨g,f,i⟩;exact⟨g,λu e=>f u (p.mem_iff.2 e),ih i⟩
 |swap x y l=>
  rintro⟨g,f,i,m,k⟩;refine⟨i,?_,g,λu e=>f u (List.mem_cons_of_mem _ e),k⟩;intro u e;rcases List.mem_cons.1 e with rfl|e
  ·obtain⟨a,b,c,d⟩:=f x List.mem_cons_self;exact⟨a.symm,c.symm,b.symm,d.symm⟩
  ·exact m u e
 |trans _ _ a b=>exactλh=>b (a h)
theorem E1g.nt {w:World} {l:List (Nat×Nat×Nat)} (h:E1g w l):∀t∈l,Nt w t.1 t.2.1 t.2.2:=by
 induction l with
 |nil=>intro t a;cases a
 |cons x r ih=>
  intro t a;rcases List.mem_cons.1 a with rfl|a
  ·exact h.1
  ·exact ih h.2.2 t a
theorem E1g.frame {w w':World} {l:List (Nat×Nat×Nat)} {S:Nat->Prop} (h:E1g w l) (b:Fr S w w') (a:∀t∈l,¬S t.1/\¬S t.2.1):E1g w' l:=by
 induction l with
 |nil=>trivial
 |cons x r ih=>exact⟨h.1.frame b (a x List.mem_cons_self).1 (a x List.mem_cons_self).2,h.2.1,ih h.2.2 (λt ht=>a t (List.mem_cons_of_mem _ ht))⟩
def Sx (S A:Nat->Prop) (w0 w:World) (l:List (Nat×Nat)):Prop:=
 ∃L:List (Nat×Nat×Nat),L.map (λt=>(t.1,t.2.2))=l/\E1g w L/\Fr S w0 w/\(∀t∈L,((S t.1\/w0.heap.size<=t.1)/\(S t.2.1\/w0.heap.size<=t.2.1))/\¬A t.1/\¬A t.2.1)/\∀i,A i->i<w.heap.size
theorem Sx.fr {S A:Nat->Prop} {w0 w:World} {l:List (Nat×Nat)} (h:Sx S A w0 w l):Fr S w0 w:=h.choose_spec.2.2.1
theorem E8z {α β:Type} (f:α->β) {L:List α} {e:List β} (p:(L.map f).Perm e):∃L',L.Perm L'/\L'.map f=e:=by
 generalize c:L.map f=l at p
 induction p generalizing L with
 |nil=>exact⟨L,List.Perm.refl _,by simpa using c⟩
 |cons x p ih=>
  cases L with
  |nil=>simp at c
  |cons y r=>
   simp at c;obtain⟨h,d,p2⟩:=ih c.2;exact⟨y::h,d.cons _,by simp[c.1,p2]⟩
 |swap x y l=>
  match L,c with
  |a::b::r,c=>
   simp at c;exact⟨b::a::r,List.Perm.swap _ _ _,by simp[c.1,c.2.1,c.2.2]⟩
 |trans _ _ ih1 ih2=>
  obtain⟨k,d,i⟩:=ih1 c;obtain⟨j,p2,g⟩:=ih2 i;exact⟨j,d.trans p2,g⟩
theorem Sx.perm {S A:Nat->Prop} {w0 w:World} {l a:List (Nat×Nat)} (h:Sx S A w0 w l) (p:l.Perm a):Sx S A w0 w a:=by
 obtain⟨L,rfl,g,f,c,b⟩:=h;obtain⟨d,p',e⟩:=E8z _ p;exact⟨d,e,g.perm p',f,λt ht=>c t (p'.mem_iff.2 ht),b⟩
theorem Sx.swap {S A:Nat->Prop} {w0 w:World} {x y:Nat×Nat} {l:List (Nat×Nat)} (h:Sx S A w0 w (x::y::l)):Sx S A w0 w (y::x::l):=h.perm (List.Perm.swap _ _ _)
theorem Sx.drewN {S A:Nat->Prop} {w0 w:World} {l:List (Nat×Nat)} (h:Sx S A w0 w l) (m:Nat):Sx S A w0 (w.drewN m) l:=by
 obtain⟨L,c,e,d,b,a⟩:=h;exact⟨L,c,e.frame (S:=λ_=>False) ((Fr.refl _ w).drewN m) (λ_ _=>⟨id,id⟩),d.drewN m,b,a⟩
theorem Sx.other {S A:Nat->Prop} {w0 w w':World} {l:List (Nat×Nat)} (h:Sx S A w0 w l) {T:Nat->Prop} (a:Fr T w w') (f:∀i,T i->(S i\/w0.heap.size<=i)) (c:∀i,T i->A i):Sx S A w0 w' l:=by
 obtain⟨L,g,k,j,b,d⟩:=h;exact⟨L,g,k.frame a (λt ht=>⟨λe=>(b t ht).2.1 (c _ e),λe=>(b t ht).2.2 (c _ e)⟩),j.trans' a f,b,λi hi=>Nat.lt_of_lt_of_le (d i hi) a.size⟩
theorem Sx.alloc {S A:Nat->Prop} {w0 w:World} {l:List (Nat×Nat)} (h:Sx S A w0 w l) (o:Obj):Sx S (λi=>A i\/i=w.heap.size) w0 (w.alloc o) l:=by
 obtain⟨L,f,b,g,a,d⟩:=h;refine⟨L,f,b.frame (S:=λ_=>False) ((Fr.refl _ w).alloc o) (λ_ _=>⟨id,id⟩),g.alloc o,λt ht=>⟨(a t ht).1,?_,?_⟩,?_⟩
 ·rintro(e|e)
  ·exact(a t ht).2.1 e
  ·have:=(b.nt t ht).lt;omega
 ·rintro(e|e)
  ·exact(a t ht).2.2 e
  ·have:=(b.nt t ht).lt;omega
 ·rintro i (c|c)
  ·have:=d i c;simp;omega
  ·simp;omega
theorem Sx.weaken {S A A':Nat->Prop} {w0 w:World} {l:List (Nat×Nat)} (h:Sx S A w0 w l) (a:∀i,A' i->A i):Sx S A' w0 w l:=by
 obtain⟨L,d,g,f,b,c⟩:=h;exact⟨L,d,g,f,λt ht=>⟨(b t ht).1,λe=>(b t ht).2.1 (a _ e),λe=>(b t ht).2.2 (a _ e)⟩,λi hi=>c i (a i hi)⟩
theorem Sx.tail {S A:Nat->Prop} {w0 w:World} {x:Nat×Nat} {l:List (Nat×Nat)} (h:Sx S A w0 w (x::l)):Sx S A w0 w l:=by
 obtain⟨L,a,e,d,c,b⟩:=h;cases L with
 |nil=>simp at a
 |cons t r=>simp at a;exact⟨r,a.2,e.2.2,d,λu hu=>c u (List.mem_cons_of_mem _ hu),b⟩
theorem Sx.start {A:Nat->Prop} (w:World) (a:∀i,A i->i<w.heap.size):Sx (λ_=>False) A w w []:=
 ⟨[],rfl,trivial,Fr.refl _ _,by simp,a⟩
theorem Sx.step {S A:Nat->Prop} {w0 w w':World} {b N o:Nat} {l:List (Nat×Nat)} {L:List (Nat×Nat×Nat)} {g j:Nat} (s:L.map (λt=>(t.1,t.2.2))=l)
 (h:E1g w ((b,g,N)::L)) (p:Fr S w0 w) (r:∀t∈(b,g,N)::L,((S t.1\/w0.heap.size<=t.1)/\(S t.2.1\/w0.heap.size<=t.2.1))/\¬A t.1/\¬A t.2.1) (q:∀i,A i->i<w.heap.size)
 (v:Nt w' b j o) (m:Fr (λi=>i=b\/i=g) w w') (k:j=g\/w.heap.size<=j):Sx S A w0 w' ((b,o)::l):=by
 have d:=r _ List.mem_cons_self;have f:=h.nt _ List.mem_cons_self;have f:=f.lt;simp only at d f;refine⟨(b,j,o)::L,by simp[s],⟨v,λu hu=>?_,h.2.2.frame m (λu hu=>?_)⟩,p.trans' m ?_,?_,λi hi=>Nat.lt_of_lt_of_le (q i hi) m.size⟩
 ·have a:=h.2.1 u hu
  have c:=(h.2.2.nt u hu).lt;simp only at a ⊢;omega
 ·have a:=h.2.1 u hu
  simp only at a;omega
 ·rintro i (rfl|rfl)
  ·exact d.1.1
  ·exact d.1.2
 ·intro t n
  rcases List.mem_cons.1 n with rfl|n
  ·refine⟨⟨d.1.1,?_⟩,d.2.1,?_⟩
   ·rcases k with rfl|k
    ·exact d.1.2
    ·have:=p.size;exact .inr (by simp only;omega)
   ·rcases k with rfl|k
    ·exact d.2.2
    ·intro e;have:=q _ e;simp only at this;omega
  ·exact r t (List.mem_cons_of_mem _ n)
theorem G0e {S A:Nat->Prop} {w0 w:World} {b N d f:Nat} {args:Array Value} {l:List (Nat×Nat)} {j:Ending}
 (n:∀g,Nt w b g N->Calls Tryz.prog f args w λe w'=>e=j/\∃c,Nt w' b c d/\Fr (λi=>i=b\/i=g) w w'/\(c=g\/w.heap.size<=c))
 (h:Sx S A w0 w ((b,N)::l)):Calls Tryz.prog f args w λe w'=>e=j/\Sx S A w0 w' ((b,d)::l):=by
 obtain⟨L,a,k,m,q,p⟩:=h;cases L with
 |nil=>simp at a
 |cons t L=>
  obtain⟨u,g,v⟩:=t;simp at a;obtain⟨⟨rfl,rfl⟩,a⟩:=a;refine(n g k.1).mono ?_;rintro e w' ⟨rfl,c,s,o,r⟩;exact⟨rfl,Sx.step a k m q p s o r⟩
theorem A9c {S A:Nat->Prop} {w0 w:World} {l:List (Nat×Nat)} (b N k:Nat) (c:Sm (N*p10 k)) (a:k<=100000) (h:Sx S A w0 w ((b,N)::l)):
 Calls Tryz.prog 161 #[.pointer (some ⟨b,0,none⟩),.int .i64 k] w λe w'=>e=.returned (.tuple #[])/\Sx S A w0 w' ((b,N*p10 k)::l):=
 G0e (λg hg=>A9b b g N k w c hg a) h
theorem B6w {S A:Nat->Prop} {w0 w:World} {l:List (Nat×Nat)} (b N k:Nat) (a:k<=30000) (c:Sm (2^k*N)) (h:Sx S A w0 w ((b,N)::l)):
 Calls Tryz.prog 114 #[.pointer (some ⟨b,0,none⟩),.int .i64 k] w λe w'=>e=.returned (.tuple #[])/\Sx S A w0 w' ((b,2^k*N)::l):=
 G0e (λg hg=>B6v b g N k w a hg c) h
theorem D0z {S A:Nat->Prop} {w0 w:World} {l:List (Nat×Nat)} (b N c M:Nat) (o:Sm N) (i:Sm M) (j:M<=N) (h:Sx S A w0 w ((b,N)::(c,M)::l)):
 Calls Tryz.prog 118 #[.pointer (some ⟨b,0,none⟩),.pointer (some ⟨c,0,none⟩)] w λe w'=>e=.returned (.tuple #[])/\Sx S A w0 w' ((b,N-M)::(c,M)::l):=by
 obtain⟨L,r,f,k,p,n⟩:=h
 match L,r with
 |(b',g,N0)::(c',h',M0)::L,d=>
  simp at d;obtain⟨⟨rfl,rfl⟩,⟨rfl,rfl⟩,d⟩:=d;have a:=f.2.1 _ List.mem_cons_self;simp only at a;refine(B8v b' g c' h' N0 M0 w o i j f.1 f.2.2.1 a.1.symm a.2.2.1.symm a.2.1.symm a.2.2.2.symm).mono ?_;rintro e w' ⟨rfl,q,m⟩;exact⟨rfl,Sx.step (by simp[d]) f k p n q m (.inl rfl)⟩
theorem Sx.head {S A:Nat->Prop} {w0 w:World} {l:List (Nat×Nat)} {b N:Nat} (h:Sx S A w0 w ((b,N)::l)):∃g,Nt w b g N:=by
 obtain⟨L,a,c,f,e,d⟩:=h
 match L,a with
 |(b',g,N0)::L,a=>
  simp at a;obtain⟨⟨rfl,rfl⟩,a⟩:=a;exact⟨g,c.1⟩
theorem A9w {S A:Nat->Prop} {w0 w:World} {l i:List (Nat×Nat)} (b N c M:Nat) (n:Sm N) (a:Sm M) (h:Sx S A w0 w ((b,N)::l)) (k:Sx S A w0 w ((c,M)::i)):
 Calls Tryz.prog 120 #[.pointer (some ⟨b,0,none⟩),.pointer (some ⟨c,0,none⟩)] w λe w'=>∃r:Int,e=.returned (.int .i64 r)/\(r<0↔N<M)/\(r=0↔N=M)/\ -1000000<=r/\r<=1000000/\∃m,w'=w.drewN m:=by
 obtain⟨g,j⟩:=h.head;obtain⟨f,d⟩:=k.head;exact D6k b g c f N M w n a j d
theorem C7q {S A:Nat->Prop} {w0 w:World} {l:List (Nat×Nat)} (b N:Nat) (c:Sm N) (h:Sx S A w0 w ((b,N)::l)):
 Calls Tryz.prog 162 #[.pointer (some ⟨b,0,none⟩)] w λe w'=>e=.returned (.int .i64 (A2x N:Nat))/\w'=w:=by
 obtain⟨g,a⟩:=h.head;exact E0z b g N w c a
theorem Sx.more {S A:Nat->Prop} {w0 w w':World} {l:List (Nat×Nat)} {b g N:Nat} (h:Sx S A w0 w l) (n:Nt w' b g N) (a:Fr (λ_=>False) w w') (r:w.heap.size<=b) (q:w.heap.size<=g):Sx S A w0 w' ((b,N)::l):=by
 obtain⟨L,o,k,j,m,f⟩:=h;have p:=j.size;refine⟨(b,g,N)::L,by simp[o],⟨n,λu hu=>?_,k.frame a (λ_ _=>⟨id,id⟩)⟩,j.trans' a (λi hi=>hi.elim),?_,λi hi=>Nat.lt_of_lt_of_le (f i hi) a.size⟩
 ·have c:=(k.nt u hu).lt
  simp only;omega
 ·intro t d
  rcases List.mem_cons.1 d with rfl|d
  ·simp only
   exact⟨⟨.inr (by omega),.inr (by omega)⟩,λe=>by have:=f _ e;omega,λe=>by have:=f _ e;omega⟩
  ·exact m t d
theorem B4f {S A:Nat->Prop} {w0 w:World} {l:List (Nat×Nat)} (n:Nat) (i:n<18446744073709551616) (h:Sx S A w0 w l):
 Calls Tryz.prog 111 #[.int .u64 n] w λe w'=>∃b,e=.returned (.pointer (some ⟨b,0,none⟩))/\Sx S A w0 w' ((b,n)::l)/\w.heap.size<=b/\Fr (λ_=>False) w w':=by
 refine(B4d n w i).mono ?_;rintro e w' ⟨b,g,rfl,f,c,a,d⟩;exact⟨b,rfl,h.more f c a d,a,c⟩
def p2 (k:Nat):Nat:=2^k
theorem A2y (k:Nat):0<p2 k:=Nat.two_pow_pos k
theorem A3x (a b:Nat):p2 (a+b)=p2 a*p2 b:=Nat.pow_add ..
theorem A8j (a:Nat):p2 (a+1)=2*p2 a:=by unfold p2;rw[Nat.pow_succ,Nat.mul_comm]
theorem A2t {a b:Nat} (h:a<=b):p2 a<=p2 b:=Nat.pow_le_pow_right (by omega) h
theorem F6e:p2 53=9007199254740992:=by decide
def Pre (N M N1 M1 E:Nat):Prop:=N*p2 1074*M1=N1*p2 53*p2 E*M
theorem D6q {N M b a E:Nat} (h:Pre N M b a E):Pre N M b (2*a) (E+1):=by
 unfold Pre at*;rw[Nat.mul_left_comm,h,A8j E];simp only[Nat.mul_assoc,Nat.mul_left_comm]
theorem E9a (N M d e a:Nat) (g:N<p2 d) (i:p2 d<=2*N) (f:M<p2 e) (b:p2 e<=2*M) (c:a+e=d):
 Pre N M N (p2 a*M) (a+1021)/\N<2*(p2 a*M)/\p2 a*M<2*N:=by
 subst c;rw[A3x]at*;have h:=A2y a;refine⟨?_,?_,?_⟩
 ·unfold Pre
  rw[A3x,A3x 53 1021];simp only[Nat.mul_assoc,Nat.mul_left_comm]
 ·have:p2 a*p2 e<=p2 a*(2*M):=Nat.mul_le_mul_left _ b
  rw[Nat.mul_left_comm]at this;omega
 ·have:p2 a*M<p2 a*p2 e:=Nat.mul_lt_mul_of_pos_left f h
  omega
theorem D6r (N M d e k:Nat) (a:N<p2 d) (b:p2 d<=2*N) (h:M<p2 e) (c:p2 e<=2*M) (f:d+k=e) (g:k<=1021):
 Pre N M (p2 k*N) M (1021-k)/\p2 k*N<2*M/\M<2*(p2 k*N):=by
 subst f;rw[A3x]at*;have i:=A2y k;refine⟨?_,?_,?_⟩
 ·unfold Pre
  have:p2 1074=p2 53*(p2 k*p2 (1021-k)):=by rw[<-A3x,<-A3x];congr 1;omega
  rw[this];simp only[Nat.mul_assoc,Nat.mul_left_comm]
 ·have:p2 k*N<p2 k*p2 d:=Nat.mul_lt_mul_of_pos_left a i
  rw[Nat.mul_comm (p2 k) (p2 d)]at this;omega
 ·have:p2 k*p2 d<=p2 k*(2*N):=Nat.mul_le_mul_left _ b
  rw[Nat.mul_comm (p2 k) (p2 d),Nat.mul_left_comm]at this;omega
theorem E1h (N M d e:Nat) (a:N<p2 d) (c:p2 e<=2*M) (b:d+1022<=e):
 Pre N M (p2 1021*N) M 0/\p2 1021*N<M:=by
 refine⟨?_,?_⟩
 ·unfold Pre
  rw[A3x 53 1021,show p2 0=1 from rfl];simp only[Nat.mul_assoc,Nat.mul_left_comm,Nat.one_mul]
 ·have f:p2 1021*N<p2 1021*p2 d:=Nat.mul_lt_mul_of_pos_left a (A2y _)
  rw[<-A3x]at f;have g:2*p2 (1021+d)<=p2 e:=by rw[<-A8j];exact A2t (by omega)
  omega
theorem F6f {N M f b E m R:Nat} (n:0<M) (i:0<b) (k:Pre N M f b E) (c:f*p2 53=m*b+R) (l:R<b) (o:f<b) (e:E=0\/b<=2*f):
 m<9007199254740992/\∀r,r=E*4503599627370496+m+(if b<2*R\/(2*R=b/\m % 2=1)then 1 else 0)->Rnd (N*p2 1074) M r:=by
 have d:=F6e
 have g:m<9007199254740992:=by
  rcases Nat.lt_or_ge m 9007199254740992 with h|h
  ·exact h
  ·exfalso
   have a:9007199254740992*b<=m*b:=Nat.mul_le_mul_right _ h;rw[d]at c;omega
 refine⟨g,λr hr=>G0a n i l ?_ ?_ hr⟩
 ·rcases e with h|h
  ·exact .inl ⟨h,g⟩
  ·right
   refine⟨?_,g⟩;rcases Nat.lt_or_ge m 4503599627370496 with j|j
   ·exfalso
    have a:(m+1)*b<=4503599627370496*b:=Nat.mul_le_mul_right _ j;rw[d]at c;rw[Nat.add_mul]at a;omega
   ·exact j
 ·unfold Pre at k
  rw[k,c];rfl
theorem E9b {b a m R i:Nat} (h:b*p2 i=m*a+R):b*p2 (i+1)=(2*m)*a+2*R:=by
 rw[A8j,Nat.mul_left_comm,h,Nat.mul_add,Nat.mul_assoc]
end Go.Proofs.YtmkkibaacclhnaaGreatDoor
