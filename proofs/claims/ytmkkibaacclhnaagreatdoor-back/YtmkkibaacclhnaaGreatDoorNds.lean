/-
  A step of the walk, the part named Nds. No theorem of the row.
-/
import Derived.Test.YtmkkibaacclhnaaGreatDoorNce
import Derived.RangeFuncNested
import Derived.RangeFuncBound
import Derived.RangeFuncCalls
import Derived.RangeFuncLeaves
import Derived.Shelf.Abstract
import Derived.Shelf.RegionOpen
import Derived.OwnWalkIn
import Derived.TacticsInMore
import Derived.LoopNIn
import Derived.LoopIn
import Derived.Sort.QuietIn
import Derived.RegionIn
import Derived.Test.YtmkkibaacclhnaaGreatDoorNab
namespace Go.Proofs.YtmkkibaacclhnaaGreatDoor
open Go.RowKit Go.Shelf
set_option maxRecDepth 100000
set_option maxHeartbeats 16000000
attribute [local go_sem] Oper.semAt_some
def chunkV (b len k:Nat):Value:=.slice (some ⟨b,9*k,none⟩) (min 9 (len-9*k)) (min 9 (len-9*k))
theorem chunkV_eq (b len k:Nat):chunkV b len k=.slice (some ⟨b,9*k,none⟩) ((9*(k:Int)+min 9 ((len-9*k:Nat):Int)).toNat-9*k) ((9*(k:Int)+min 9 ((len-9*k:Nat):Int)).toNat-9*k):=by
 have e:min 9 (len-9*k)=(9*(k:Int)+min 9 ((len-9*k:Nat):Int)).toNat-9*k:=by omega
 unfold chunkV;rw[e]
def KpC (n₀ Bs Bn:Nat) (A B:World):Prop:=Fr (fun i=>¬(i<n₀∨i=Bs∨i=Bn)) A B
theorem chunk1_in (n:Nat) (hn:1≤n) (l Bs Bn n₀ b len cap:Nat) (hlen:len≤1000000) (hcap:len≤cap) (J Jx:List {j:Nat//9*j<len}→World→Prop) (hJ:∀s A B,J s A→A.grownBy B none→J s B)
 (hY:∀pre (x:{j:Nat//9*j<len}) W,J pre W→pre.length<(len+8)/9→YieldAt Fence.wide (n-1) Tryz.prog l #[chunkV b len x.1] W fun e W'=>
   (e=.returned (.bool true)∧J (pre++[x]) W'∧KpC n₀ Bs Bn W W')∨(e=.returned (.bool false)∧Jx (pre++[x]) W'))
 (W:World) (hBsl:Bs<W.heap.size) (hBnl:Bn<W.heap.size) (hBs:W.cell? ⟨Bs,0,none⟩=some (.slice (some ⟨b,0,none⟩) len cap)) (hBn:W.cell? ⟨Bn,0,none⟩=some (.int .i64 9)) (h0:J [] W):
 CallsIn Fence.wide n Tryz.prog 217 #[.func (.yield l) #[] #[],.pointer (some ⟨Bs,0,none⟩),.pointer (some ⟨Bn,0,none⟩)] W fun e W'=>(∃v,e=.returned v)∧
  ((∃xs:List {j:Nat//9*j<len},xs.map (·.1)=List.range ((len+8)/9)∧J xs W')∨(∃pre,True∧Jx pre W')):=by
 refine callsIn_of_wp Tryz.func217 rfl trivial ?_ rfl;simp only[Tryz.ntmps217,List.size_toArray,List.length_cons,List.length_nil,Nat.reduceAdd,Nat.reduceSub,Array.replicate_succ,Array.replicate_zero,List.push_toArray,List.append_toArray,List.nil_append,List.cons_append]
 gi_wp2
 gi_loopw [4] (fun i wr=>∃(k:Nat) (xs:List {j:Nat//9*j<len}),9*k<len+9∧i=.int .i64 (9*k:Nat)∧Hid (xs.map (·.1)=List.range k)∧J xs wr∧KpC n₀ Bs Bn W wr)
  (fun i _=>len+9-(intOf i).toNat)
 case atStart=>exact⟨0,[],by omega,rfl,rfl,h0,Fr.refl _ _⟩
 case round=>
  obtain⟨k,xs,hk,rfl,hxs,hJs,hnx⟩:=hrel;have hBs':=(Fr.cell hnx (p:=⟨Bs,0,none⟩) hBsl (by simp)).trans hBs;have hBn':=(Fr.cell hnx (p:=⟨Bn,0,none⟩) hBnl (by simp)).trans hBn;have hxl:xs.length=k:=by have:=congrArg List.length hxs.out;simpa using this
  by_cases hlt:9*k<len
  ·obtain⟨fn,tmps,assign,body,hy,hR⟩:=hY xs ⟨k,hlt⟩ wr.drew (hJ _ wr wr.drew hJs ⟨rfl,rfl,rfl,Nat.le_refl _,fun _ _ _=>rfl⟩) (by omega)
   have hlt':9*(k:Int)<len:=by omega
   dsimp only at hy
   rw[chunkV_eq]at hy;have HX:Hid _:=hxl;clear hxl
   gi_wp2_with fail
   gi_region
   gi_wp2
   refine hR.mono ?_;rintro e W3 (⟨rfl,hJ3,hk3⟩|⟨rfl,hJx3⟩)
   ·have hB3:KpC n₀ Bs Bn W W3:=Fr.trans hnx ⟨hk3.os,hk3.tape,hk3.output,hk3.size,hk3.block⟩
    have hBn3:=(Fr.cell hB3 (p:=⟨Bn,0,none⟩) hBnl (by simp)).trans hBn;have HB3:Hid _:=hB3;clear hB3 hk3 hnx
    gi_wp2
    go_roundw
    case rel=>exact⟨k+1,xs++[⟨k,hlt⟩],by omega,by go_num,by show _=_;rw[List.map_append,hxs.out,List.range_succ];rfl,hJ3,HB3.out⟩
    case measure=>simp[intOf];omega
   ·gi_wp2
    refine bodyPost_ret (results_none rfl _ _ _) rfl ?_;exact⟨⟨_,rfl⟩,.inr ⟨_,trivial,hJx3⟩⟩
  ·have hkk:k=(len+8)/9:=by omega
   have HX:Hid _:=hkk;clear hkk hxl
   gi_wp2
   go_end0;exact⟨⟨_,rfl⟩,.inl ⟨xs,by rw[←HX.out];exact hxs.out,hJs⟩⟩
theorem chunk_any (a:Option Addr) (len cap:Nat) (w:World):
 Calls Tryz.prog 195 #[.slice a len cap,.int .i64 9] w fun e w'=>e=.returned (.func (.func 217) #[] #[.pointer (some ⟨w.heap.size,0,none⟩),.pointer (some ⟨w.heap.size+1,0,none⟩)])∧w'=(w.alloc (.cells #[.slice a len cap] 65)).alloc (.cells #[.int .i64 9] 3):=by
 go_enter Tryz.func195,Tryz.ntmps195;go_wp2;go_ret;exact⟨rfl,rfl⟩
attribute [local go_sem] Oper.semAt_some
theorem snoc_ind {P:List Nat→Prop} (h0:P []) (h:∀a x,P a→P (a++[x])) (l:List Nat):P l:=by
 rw[←List.reverse_reverse l]
 induction l.reverse with
 |nil=>exact h0
 |cons x r ih=>rw[List.reverse_cons];exact h _ _ ih
def num (ds:List Nat):Nat:=ds.foldl (fun a d=>a*10+d) 0
theorem num_snoc (ds:List Nat) (d:Nat):num (ds++[d])=num ds*10+d:=by simp[num]
theorem num_append (a b:List Nat):num (a++b)=num a*p10 b.length+num b:=by
 refine snoc_ind (P:=fun b=>num (a++b)=num a*p10 b.length+num b) ?_ ?_ b
 ·simp[num,p10]
 ·intro b x ih
  rw[←List.append_assoc,num_snoc,num_snoc,ih,List.length_append,List.length_singleton,p10_succ,Nat.add_mul,Nat.mul_assoc,Nat.add_assoc]
def Digs (ds:List Nat):Prop:=∀d∈ds,d≤9
theorem num_lt (ds:List Nat) (h:Digs ds):num ds<p10 ds.length:=by
 refine snoc_ind (P:=fun ds=>Digs ds→num ds<p10 ds.length) ?_ ?_ ds h
 ·intro _;simp[num,p10]
 ·intro b x ih h
  have h1:=ih (fun d hd=>h d (List.mem_append_left _ hd));have h2:=h x (by simp);rw[num_snoc,List.length_append,List.length_singleton,p10_succ];omega
def chunkD (ds:List Nat) (k:Nat):List Nat:=(ds.drop (9*k)).take 9
def foldC (ds:List Nat) (pre:List Nat):Nat:=pre.foldl (fun a k=>p10 (chunkD ds k).length*a+num (chunkD ds k)) 0
theorem foldC_snoc (ds pre:List Nat) (k:Nat):foldC ds (pre++[k])=p10 (chunkD ds k).length*foldC ds pre+num (chunkD ds k):=by simp[foldC]
theorem chunkD_len (ds:List Nat) (k:Nat):(chunkD ds k).length=min 9 (ds.length-9*k):=by simp[chunkD]
theorem Digs.chunk {ds:List Nat} (h:Digs ds) (k:Nat):Digs (chunkD ds k):=fun d hd=>h d (List.mem_of_mem_drop (List.mem_of_mem_take hd))
theorem foldC_lt (ds pre:List Nat) (h:Digs ds):foldC ds pre<p10 (9*pre.length):=by
 refine snoc_ind (P:=fun pre=>foldC ds pre<p10 (9*pre.length)) ?_ ?_ pre
 ·simp[foldC,p10]
 ·intro b x ih
  have h1:=num_lt _ (h.chunk x);have h2:=p10_le (chunkD ds x).length 9 (by rw[chunkD_len];omega);rw[foldC_snoc,List.length_append,List.length_singleton,Nat.mul_add,p10_add,Nat.mul_comm (p10 (9*b.length))];have h3:p10 (chunkD ds x).length*(foldC ds b+1)≤p10 (9*1)*p10 (9*b.length):=Nat.mul_le_mul h2 (by omega);rw[Nat.mul_add]at h3;omega
theorem foldC_range (ds:List Nat) (k:Nat):foldC ds (List.range k)=num (ds.take (9*k)):=by
 induction k with
 |zero=>simp[foldC,num]
 |succ k ih=>
  rw[List.range_succ,foldC_snoc,ih,Nat.mul_add,Nat.mul_one,List.take_add,num_append,Nat.mul_comm];rfl
theorem two_le (m k:Nat) (h:k≤32*m):2^k≤4294967296^m:=by rw[pow32];exact Nat.pow_le_pow_right (by omega) h
theorem Sm_two (n k:Nat) (hk:k≤32000) (h:n<2^k):Sm n:=Nat.lt_of_lt_of_le h (two_le 1000 k hk)
theorem p10_two (k:Nat):p10 k≤2^(4*k):=by
 rw[Nat.pow_mul];exact Nat.pow_le_pow_left (by omega) k
theorem Sm_p10 (n k:Nat) (hk:k≤3000) (h:n<p10 k):Sm n:=Sm_two n (4*k) (by omega) (Nat.lt_of_lt_of_le h (p10_two k))
def IsBytes (w:World) (b:Nat) (ds:List Nat):Prop:=∀j,(h:j<ds.length)→w.cell? ⟨b,j,none⟩=some (.int .u8 ((48+ds[j]:Nat):Int))
theorem KeepsOthers.ofFr {W W':World} {S:Nat→Prop} (h:Fr S W W') (hS:∀i o,S i→W.heap[i]? =some o→o.isCells=true):KeepsOthers W W':=by
 refine⟨h.size,fun k o hk ho=>?_⟩;have hb:=h.block k (lt_of_block hk) (fun hs=>by rw[hS k o hs hk]at ho;cases ho);rw[hb];exact hk
theorem Nt.cells {w:World} {b g N:Nat} (h:Nt w b g N):(∀o,w.heap[b]? =some o→o.isCells=true)∧(∀o,w.heap[g]? =some o→o.isCells=true):=by
 obtain⟨ws,⟨cap,T,h1,h2,h3⟩,_⟩:=h;refine⟨fun o ho=>by rw[h1]at ho;cases ho;rfl,fun o ho=>?_⟩;rcases h2.2 with⟨h4,_⟩|⟨g',cap',cur,hv,_,hh,_⟩
 ·simp at h4
 ·simp at hv;obtain⟨rfl,rfl⟩:=hv;rw[hh]at ho;cases ho;rfl
theorem Nt.grown {w w':World} {b g N:Nat} {row:Option Nat} (h:Nt w b g N) (hg:w.grownBy w' row) (hr:∀r,row=some r→∃o:Obj,w.heap[r]? =some o∧o.isCells=false):Nt w' b g N:=by
 have hc:=h.cells;have hF:Fr (fun i=>some i=row) w w':=⟨hg.os,hg.tape,hg.output,hg.size,fun k hk hs=>hg.block k hk hs⟩;refine h.frame hF ?_ ?_
 ·intro e;obtain⟨o,h1,h2⟩:=hr b e.symm;rw[hc.1 o h1]at h2;cases h2
 ·intro e;obtain⟨o,h1,h2⟩:=hr g e.symm;rw[hc.2 o h1]at h2;cases h2
theorem fromDigits_in (n:Nat) (hn:5≤n) (b len cap:Nat) (ds:List Nat) (w:World) (hds:Digs ds) (hl:ds.length=len) (hlen:len≤2000) (hcap:len≤cap) (hb:b<w.heap.size) (hB:IsBytes w b ds):
 CallsIn Fence.wide n Tryz.prog 160 #[.slice (some ⟨b,0,none⟩) len cap] w fun e w'=>∃bm gm,e=.returned (.pointer (some ⟨bm,0,none⟩))∧Nt w' bm gm (num ds)∧Fr (fun _=>False) w w'∧w.heap.size≤bm∧w.heap.size≤gm:=by
 have h1:1≤n:=by omega
 refine callsIn_of_wp_marks Tryz.func160 rfl trivial ?_ rfl;simp only[Tryz.ntmps160,List.size_toArray,List.length_cons,List.length_nil,Nat.reduceAdd,Nat.reduceSub,Array.replicate_succ,Array.replicate_zero,List.push_toArray,List.append_toArray,List.nil_append,List.cons_append]
 gi_wp2_with (first|(refine⟨trivial,?_⟩;gi_at_call 111;refine(callsIn_wide.2 (newNatural_nt 0 _ (by omega))).mono ?_;rintro e w1 ⟨bm,gm,rfl,q1,q2,q3,q4⟩)|(refine⟨trivial,?_⟩;gi_at_call 195;refine(callsIn_wide.2 (chunk_any _ _ _ _)).mono ?_;rintro e w' ⟨rfl,rfl⟩))
 have hbl:=q1.lt;have hsz:w.heap.size≤w1.heap.size:=q2.size
 have hNt0:Nt (((w1.alloc (Obj.cells #[Value.pointer (some {block:=bm,off:=0})] 141)).alloc (Obj.cells #[Value.slice (some {block:=b,off:=0}) len cap] 65)).alloc (Obj.cells #[Value.int IntKind.i64 9] 3)) bm gm 0:=
  q1.frame ((((Fr.refl (fun _=>False) w1).alloc _).alloc _).alloc _) id id
 have hF0:Fr (fun i=>w.heap.size≤i) w (((w1.alloc (Obj.cells #[Value.pointer (some {block:=bm,off:=0})] 141)).alloc (Obj.cells #[Value.slice (some {block:=b,off:=0}) len cap] 65)).alloc (Obj.cells #[Value.int IntKind.i64 9] 3)):=
  (((q2.alloc _).alloc _).alloc _).mono (fun _ h=>h.elim)
 have hbox:(((w1.alloc (Obj.cells #[Value.pointer (some {block:=bm,off:=0})] 141)).alloc (Obj.cells #[Value.slice (some {block:=b,off:=0}) len cap] 65)).alloc (Obj.cells #[Value.int IntKind.i64 9] 3)).heap[w1.heap.size]? =some (.cells #[.pointer (some ⟨bm,0,none⟩)] 141 (0,0)):=by
  rw[Below.heap_alloc _ _ _ (by simp;omega),Below.heap_alloc _ _ _ (by simp)];exact heap_alloc_new w1 _
 have hBs:(((w1.alloc (Obj.cells #[Value.pointer (some {block:=bm,off:=0})] 141)).alloc (Obj.cells #[Value.slice (some {block:=b,off:=0}) len cap] 65)).alloc (Obj.cells #[Value.int IntKind.i64 9] 3)).heap[w1.heap.size+1]? =some (.cells #[.slice (some ⟨b,0,none⟩) len cap] 65 (0,0)):=by
  rw[Below.heap_alloc _ _ _ (by simp)];have:=heap_alloc_new (w1.alloc (Obj.cells #[Value.pointer (some {block:=bm,off:=0})] 141)) (Obj.cells #[Value.slice (some {block:=b,off:=0}) len cap] 65);rwa[World.size_alloc]at this
 have hBn:(((w1.alloc (Obj.cells #[Value.pointer (some {block:=bm,off:=0})] 141)).alloc (Obj.cells #[Value.slice (some {block:=b,off:=0}) len cap] 65)).alloc (Obj.cells #[Value.int IntKind.i64 9] 3)).heap[w1.heap.size+1+1]? =some (.cells #[.int .i64 9] 3 (0,0)):=by
  have:=heap_alloc_new ((w1.alloc (Obj.cells #[Value.pointer (some {block:=bm,off:=0})] 141)).alloc (Obj.cells #[Value.slice (some {block:=b,off:=0}) len cap] 65)) (Obj.cells #[Value.int IntKind.i64 9] 3);rwa[World.size_alloc,World.size_alloc]at this
 have hW0s:(((w1.alloc (Obj.cells #[Value.pointer (some {block:=bm,off:=0})] 141)).alloc (Obj.cells #[Value.slice (some {block:=b,off:=0}) len cap] 65)).alloc (Obj.cells #[Value.int IntKind.i64 9] 3)).heap.size=w1.heap.size+3:=by simp
 generalize ((w1.alloc (Obj.cells #[Value.pointer (some {block:=bm,off:=0})] 141)).alloc (Obj.cells #[Value.slice (some {block:=b,off:=0}) len cap] 65)).alloc (Obj.cells #[Value.int IntKind.i64 9] 3)=W0 at*
 refine wpIn_rangeFunc_ownF (F:=Fence.wide) rfl h1 (gf:=217) (lb:=#[.pointer (some ⟨w1.heap.size+1,0,none⟩),.pointer (some ⟨w1.heap.size+1+1,0,none⟩)]) rfl trivial (enters_of Tryz.func217 (by kernel_rfl) rfl)
  (encs:=fun x:{j:Nat//9*j<len}=>#[chunkV b len x.1]) (Kp:=KpC w.heap.size (w1.heap.size+1) (w1.heap.size+1+1)) (S:=fun xs=>xs.map (·.1)=List.range ((len+8)/9)) (Sp:=fun _=>True) (N:=(len+8)/9) (w0:=W0)
  (fun l J Jx W hW hJ _ hY h0=>chunk1_in (n-1) (by omega) l _ _ w.heap.size b len cap (by omega) hcap J Jx (fun s A B hs hg=>hJ s A B none hs hg (fun r e=>by cases e)) hY W (by have:=hW.size;omega) (by have:=hW.size;omega)
    ((hW.cell (p:=⟨w1.heap.size+1,0,none⟩) (by show _<_;simp;omega)).trans (cell_of_one hBs)) ((hW.cell (p:=⟨w1.heap.size+1+1,0,none⟩) (by show _<_;simp;omega)).trans (cell_of_one hBn)) h0)
  Fr.trans ?kb (Below.refl _ _) (fun _=>rfl)
  (fun pre W=>∃gm',w.heap.size≤gm'∧(gm'<w1.heap.size∨w1.heap.size+3≤gm')∧Nt W bm gm' (foldC ds (pre.map (·.1)))∧W.heap[w1.heap.size]? =some (.cells #[.pointer (some ⟨bm,0,none⟩)] 141 (0,0))∧Fr (fun i=>w.heap.size≤i) w W∧w1.heap.size+3≤W.heap.size)
  (fun _ _ _=>False) ?own (fun _ _ _ _ _ hs _ _=>hs) ⟨gm,q4,.inl hbl.2.1,hNt0,hbox,hF0,by omega⟩
  (fun x=>{tmps:=#[Value.slice (some {block:=b,off:=0}) len cap,undef,Value.pointer none,
    Value.pointer (some {block:=w1.heap.size,off:=0}),chunkV b len x.1,undef,undef,undef,undef,
    Value.pointer (some {block:=bm,off:=0}),Value.slice (some {block:=b,off:=0}) len cap,
    Value.func (Fn.func 217) #[]
     #[Value.pointer (some {block:=w1.heap.size+1,off:=0}),
      Value.pointer (some {block:=w1.heap.size+1+1,off:=0})],
    chunkV b len x.1,undef,undef,undef,undef,undef,undef,undef,undef,undef,undef,undef,undef,undef,undef,
    undef,undef,undef,undef,undef,undef],defers:=[]}) ?assign ?body ?done ?stop
 case kb=>
  intro W l o o' hl ho h1 h2;exact(Fr.refl _ W).grown (grownBy_putObj' W l o') (fun k e=>by cases e;exact .inl (by omega))
 case own=>
  rintro s A B row ⟨gm',e1,e2,e3,e4,e5,e6⟩ hg hr;refine⟨gm',e1,e2,e3.grown hg (fun r e=>(hr r e).2),?_,e5.grown hg (fun k e=>.inl (by have:=(hr k e).1;omega)),by have:=hg.size;omega⟩;rw[hg.block _ (lt_of_block e4) (fun e=>by have:=(hr _ e.symm).1;omega)];exact e4
 case assign=>
  intro l x W K hK
  gi_wp2
  exact hK
 case body=>
  rintro l pre ⟨k,hk⟩ W ⟨gm',e1,e2,e3,e4,e5,e6⟩ hpre;have hbc:=cell_of_one e4;have hm:chunkV b len k=.slice (some ⟨b,9*k,none⟩) (chunkD ds k).length (chunkD ds k).length:=by rw[chunkD_len,hl];rfl
  have hml:(chunkD ds k).length≤9:=by rw[chunkD_len];omega
  have hcell:∀i,(hi:i<(chunkD ds k).length)→W.cell? ⟨b,9*k+i,none⟩=some (.int .u8 ((48+(chunkD ds k)[i]:Nat):Int)):=by
   intro i hi;have hi2:9*k+i<ds.length:=by rw[chunkD_len]at hi;omega
   rw[e5.cell (p:=⟨b,9*k+i,none⟩) hb (by simpa using hb),hB _ hi2];congr 4;simp[chunkD]
  have hdc:=hds.chunk k;have hsm:Sm (foldC ds (pre.map (·.1))):=Sm_p10 _ (9*(pre.map (·.1)).length) (by simp;omega) (foldC_lt ds _ hds);have E3:Hid _:=e3;have E5:Hid _:=e5;have Hsm:Hid _:=hsm;have hbl3:=e3.lt;clear e3 e5 hsm hBs hBn hF0 hNt0 hbox q1 q2
  dsimp only
  rw[hm]
  gi_wp2
  gi_loop [5,6,8,15] (fun u v _ ix=>∃i:Nat,i≤(chunkD ds k).length∧u=.int .u32 (p10 i:Nat)∧v=.int .u32 (num ((chunkD ds k).take i):Nat)∧ix=.int .i64 i) (fun _ _ _ ix=>(chunkD ds k).length-(intOf ix).toNat)
  case atStart=>exact⟨0,by omega,rfl,rfl,rfl⟩
  case round=>
   obtain⟨i,hi,rfl,rfl,rfl⟩:=hrel;have hnl:=num_lt _ (fun d hd=>hdc d (List.mem_of_mem_take (i:=i) hd));rw[List.length_take_of_le hi]at hnl;by_cases hlt:i<(chunkD ds k).length
   ·have hp:=p10_le i 8 (by omega)
    have h8:p10 8=100000000:=rfl;rw[h8]at hp;have hci:=hcell i hlt;have hd9:=hdc _ (List.getElem_mem hlt);have hs1:Hid (p10 (i+1)=p10 i*10):=p10_succ i;have hs2:Hid (num ((chunkD ds k).take (i+1))=num ((chunkD ds k).take i)*10+(chunkD ds k)[i]):=by rw[Hid,List.take_succ_eq_append_getElem hlt,num_snoc]
    gi_wp2
    go_round
    case rel=>exact⟨i+1,hlt,by rw[hs1.out];go_num,by rw[hs2.out];go_num,by go_num⟩
    case measure=>simp[intOf];omega
   ·have hie:i=(chunkD ds k).length:=by omega
    have hp:=p10_le i 9 (by omega);have h9:p10 9=1000000000:=rfl;rw[h9]at hp;have hpp:=p10_pos i;have HI:Hid _:=hie;clear hie
    gi_wp2_with fail
    refine⟨trivial,fun _=>by omega,?_⟩;refine(CallsIn.inRound l (callsIn_wide.2 (timesPlus_nt bm gm' _ (p10 i) (num ((chunkD ds k).take i)) _ Hsm.out (by omega) hpp (by omega) E3.out))).mono ?_;rintro e w' ⟨rfl,g2,r1,r2,r3⟩
    gi_wp2
    have hc3:=Nt.cells E3.out;refine⟨KeepsOthers.ofFr r2 (fun j o hj ho=>by rcases hj with rfl|rfl;exact hc3.1 o ho;exact hc3.2 o ho),r2.mono (fun j hj=>by omega),g2,?_,?_,?_,?_,?_,?_⟩
    ·have:=E5.out.size;omega
    ·omega
    ·rw[List.map_append,List.map_singleton,foldC_snoc]
     rw[HI.out,List.take_length]at r1;exact r1
    ·rw[r2.block _ (lt_of_block e4) (by omega)];exact e4
    ·exact E5.out.trans' r2 (fun j hj=>.inl (by omega))
    ·have:=r2.size;omega
 case done=>
  rintro D ys W hD hS ⟨gm',e1,e2,e3,e4,e5,e6⟩ hK;have hbc:=cell_of_one e4
  gi_wp2
  refine⟨by simp,.inl ⟨_,_,rfl,run_takeDeferred hK,?_⟩⟩;refine⟨_,results_tmp rfl _ _ _,bm,gm',rfl,?_,?_,q3,e1⟩
  ·have hnum:foldC ds (ys.map (·.1))=num ds:=by rw[hS,foldC_range,List.take_of_length_le (by omega)]
   rw[←hnum];exact e3.grown (grownBy_putObj' W D _) (fun r e=>by cases e;exact⟨_,hK,rfl⟩)
  ·exact⟨e5.os,e5.tape,e5.output,by have:=e5.size;simpa using this,fun k hk _=>by
    have h3:=e5.block k hk (by omega);rw[←h3]
    exact(grownBy_putObj' W D _).block k (by have:=e5.size;omega) (by intro e;cases e;omega)⟩
 case stop=>
  rintro D c pre W _ _ h _;exact h.elim
theorem fromDigits_nt (b len cap:Nat) (ds:List Nat) (w:World) (hds:Digs ds) (hl:ds.length=len) (hlen:len≤2000) (hcap:len≤cap) (hb:b<w.heap.size) (hB:IsBytes w b ds):
 Calls Tryz.prog 160 #[.slice (some ⟨b,0,none⟩) len cap] w fun e w'=>∃bm gm,e=.returned (.pointer (some ⟨bm,0,none⟩))∧Nt w' bm gm (num ds)∧Fr (fun _=>False) w w'∧w.heap.size≤bm∧w.heap.size≤gm:=
 callsIn_wide.1 (fromDigits_in 5 (by omega) b len cap ds w hds hl hlen hcap hb hB)
theorem bo_le (x y c:Nat):bo x y c≤1:=by unfold bo;split<;>omega
theorem bo_eq (x m y:Nat) (hx:x<4294967296) (hm:m<4294967296) (hy:y≤1):x+4294967296*bo x m y=(x+8589934592-m-y) % 4294967296+m+y:=by
 unfold bo;split<;>omega
theorem take_val (ws:List Nat) (k:Nat):val (ws.take (k+1))=val (ws.take k)+4294967296^k*(ws[k]?.getD 0):=by
 by_cases h:k<ws.length
 ·rw[List.take_succ_eq_append_getElem h,val_snoc,List.length_take_of_le (by omega),List.getElem?_eq_getElem h];rfl
 ·rw[List.take_of_length_le (by omega),List.take_of_length_le (by omega),List.getElem?_eq_none (by omega)];simp
theorem sub_val (ws ms os:List Nat) (k x m y:Nat) (hk:k<ws.length) (hx:ws[k]=x) (hm:ms[k]?.getD 0=m) (hx2:x<4294967296) (hm2:m<4294967296) (hy:y≤1) (ho:os.length=k) (h:val (ws.take k)+4294967296^k*y=val os+val (ms.take k)):
 val (ws.take (k+1))+4294967296^(k+1)*bo x m y=val (os++[(x+8589934592-m-y) % 4294967296])+val (ms.take (k+1)):=by
 have hx':ws[k]?.getD 0=x:=by rw[List.getElem?_eq_getElem hk,Option.getD_some,hx]
 rw[take_val,take_val,val_snoc,ho,hm,hx'];have e:=bo_eq x m y hx2 hm2 hy;generalize (x+8589934592-m-y) % 4294967296=d at*;have e2:=congrArg (fun t=>4294967296^k*t) e;simp only[Nat.mul_add]at e2;rw[Nat.pow_succ,Nat.mul_assoc];omega
theorem sub_step {w wr:World} {b g cap T:Nat} {ws ms os:List Nat} {y k x m:Nat} (hk:k<ws.length) (hx:ws[k]=x) (hm:ms[k]?.getD 0=m) (hx2:x<4294967296) (hm2:m<4294967296) (hos:os.length=k) (hlo:Limbs os) (hy:y≤1)
 (hE:val (ws.take k)+4294967296^k*y=val os+val (ms.take k)) (hb:wr.heap[b]? =some (.cells #[.slice (some ⟨g,0,none⟩) ws.length cap] T (0,0)))
 (ho:wr.ownsRow 0 127 1 (.slice (some ⟨g,0,none⟩) ws.length cap) ws.length (vs (os++ws.drop k))) (hF:Fr (fun i=>i=b∨i=g) w wr) (hne:b≠g):
 ∃(os':List Nat),os'.length=k+1∧Limbs os'∧val (ws.take (k+1))+4294967296^(k+1)*bo x m y=val os'+val (ms.take (k+1))∧
  (wr.setCell ⟨g,k,none⟩ (.int .u32 (((x+8589934592-m-y:Nat):Int) % 4294967296))).heap[b]? =some (.cells #[.slice (some ⟨g,0,none⟩) ws.length cap] T (0,0))∧
  (wr.setCell ⟨g,k,none⟩ (.int .u32 (((x+8589934592-m-y:Nat):Int) % 4294967296))).ownsRow 0 127 1 (.slice (some ⟨g,0,none⟩) ws.length cap) ws.length (vs (os'++ws.drop (k+1)))∧
  Fr (fun i=>i=b∨i=g) w (wr.setCell ⟨g,k,none⟩ (.int .u32 (((x+8589934592-m-y:Nat):Int) % 4294967296))):=by
 refine⟨os++[(x+8589934592-m-y) % 4294967296],by simp[hos],hlo.append (Limbs.one (by omega)),sub_val ws ms os k x m y hk hx hm hx2 hm2 hy hos hE,?_,?_,hF.setCell (.inl (.inr rfl)) _⟩
 ·rw[Below.heap_setCell _ _ _ _ (by simpa using hne)];exact hb
 ·have:=(ho.stored k (.int .u32 (((x+8589934592-m-y:Nat):Int) % 4294967296))).1
  have e:(vs (os++ws.drop k)).set k (.int .u32 (((x+8589934592-m-y:Nat):Int) % 4294967296))=vs (os++[(x+8589934592-m-y) % 4294967296]++ws.drop (k+1)):=by
   rw[List.drop_eq_getElem_cons hk,vs,vs];simp only[List.map_append,List.map_cons,List.append_assoc,List.cons_append,List.nil_append];rw[List.set_append_right _ _ (by simp[hos]),List.length_map,hos,Nat.sub_self,List.set_cons_zero];rfl
  rwa[e]at this
theorem subtract_any (b g c h:Nat) (ws ms:List Nat) (w:World) (hl:ws.length≤1000) (_hl2:ms.length≤1000) (hws:Limbs ws) (hms:Limbs ms) (hge:val ms≤val ws) (hlen:ms.length≤ws.length) (hN:IsNat w b g ws) (hM:IsNat w c h ms) (n1:c≠b) (n2:c≠g) (n3:h≠b) (n4:h≠g):
 Calls Tryz.prog 118 #[.pointer (some ⟨b,0,none⟩),.pointer (some ⟨c,0,none⟩)] w fun e w'=>e=.returned (.tuple #[])∧Nt w' b g (val ws-val ms)∧Fr (fun i=>i=b∨i=g) w w':=by
 obtain⟨cap,T,hb,ho,hne⟩:=hN;have hM0:=hM;obtain⟨cap2,T2,hb2,ho2,hne2⟩:=hM;have hbc:=cell_of_one hb;have hcap2:=ownsRow_cap ho2;have hcap:=ownsRow_cap ho;go_enter Tryz.func118,Tryz.ntmps118;go_wp2
 go_loopw [4,12] (fun cy i wr=>∃(k:Nat) (os:List Nat) (y:Nat),k≤ws.length∧os.length=k∧Limbs os∧y≤1∧Hid (val (ws.take k)+4294967296^k*y=val os+val (ms.take k))∧cy=.int .u32 y∧i=.int .i64 k∧
  wr.heap[b]? =some (.cells #[.slice (some ⟨g,0,none⟩) ws.length cap] T (0,0))∧wr.ownsRow 0 127 1 (.slice (some ⟨g,0,none⟩) ws.length cap) ws.length (vs (os++ws.drop k))∧Fr (fun i=>i=b∨i=g) w wr)
  (fun _ i _=>ws.length-(intOf i).toNat)
 case atStart=>exact⟨0,[],0,Nat.zero_le _,rfl,Limbs.nil,by omega,(by simp[Hid,val]),rfl,rfl,hb,(by simpa using ho),Fr.refl _ _⟩
 case round=>
  obtain⟨k,os,y,hk,hos,hlo,hy,hE,rfl,rfl,hb1,ho1,hF⟩:=hrel;have hbc1:=cell_of_one hb1;by_cases hlt:k<ws.length
  ·have hx:ws[k]<4294967296:=hws _ (List.getElem_mem hlt)
   have hcx:wr.cell? ⟨g,k,none⟩=some (.int .u32 (ws[k]:Nat)):=by
    rw[ho1.cellAt k (by omega),vs,List.getElem?_map,List.getElem?_append_right (by omega),hos,Nat.sub_self,List.getElem?_drop,Nat.add_zero,List.getElem?_eq_getElem hlt];rfl
   have hfx:=ho1.frozenAt k;have hb2':=hF.heap hb2 (by omega);have hbc2:=cell_of_one hb2';have ho2':=ownsRow_heap rfl ho2 (hF.block h (ownsRow_lt ho2) (by omega));by_cases hlm:k<ms.length
   ·have hm:ms[k]<4294967296:=hms _ (List.getElem_mem hlm)
    have hcm:=nat_cell ho2' k hlm;obtain⟨os',r1,r2,r3,r4,r5,r6⟩:=sub_step (ms:=ms) (m:=ms[k]) hlt rfl (by rw[List.getElem?_eq_getElem hlm];rfl) hx hm hos hlo hy hE.out hb1 ho1 hF hne;have R3:Hid _:=r3;have R4:Hid _:=r4;have R5:Hid _:=r5;have R6:Hid _:=r6;clear r3 r4 r5 r6 ho1 hF hE ho2' hb2';have hbl:=bo_le ws[k] ms[k] y
    go_wp2_with fail
    go_region_with (go_at_call 170;refine(sub32_any _ _ _ _ hx hm hy).mono ?_;rintro e w' ⟨rfl,rfl⟩)
    all_goals go_wp2
    all_goals go_roundw
    all_goals first
     |exact⟨k+1,os',_,hlt,r1,r2,hbl,R3.out,rfl,by go_num,R4.out,R5.out,R6.out.drew⟩
     |(simp[intOf];omega)
   ·obtain⟨os',r1,r2,r3,r4,r5,r6⟩:=sub_step (ms:=ms) (m:=0) hlt rfl (by rw[List.getElem?_eq_none (by omega)];rfl) hx (by omega) hos hlo hy hE.out hb1 ho1 hF hne
    have R3:Hid _:=r3;have R4:Hid _:=r4;have R5:Hid _:=r5;have R6:Hid _:=r6;clear r3 r4 r5 r6 ho1 hF hE ho2' hb2';have hbl:=bo_le ws[k] 0 y
    go_wp2_with fail
    go_region_with (go_at_call 170;refine(sub32_any _ 0 _ _ hx (by omega) hy).mono ?_;rintro e w' ⟨rfl,rfl⟩)
    all_goals go_wp2
    all_goals go_roundw
    all_goals first
     |exact⟨k+1,os',_,hlt,r1,r2,hbl,R3.out,rfl,by go_num,R4.out,R5.out,R6.out.drew⟩
     |(simp[intOf];omega)
  ·have hkk:k=ws.length:=by omega
   have HE:Hid _:=hE;clear hE;subst hkk;simp only[List.drop_length,List.append_nil]at ho1;rw[List.take_length,List.take_of_length_le hlen]at HE
   have hv:y=0∧val os=val ws-val ms:=by
    have e:=HE.out;have a:=val_lt os hlo;rw[hos]at a;rcases Nat.le_one_iff_eq_zero_or_eq_one.1 hy with rfl|rfl
    ·exact⟨rfl,by omega⟩
    ·exfalso;rw[Nat.mul_one]at e;omega
   have HV:Hid _:=hv;clear hv;have hI:IsNat wr b g os:=⟨cap,T,by rw[hos];exact hb1,by rw[hos];exact ho1,hne⟩;have HI:Hid _:=hI;clear hI
   go_wp2_with (go_at_call 167;refine(trim_nt b g os _ (by omega) hlo HI.out).mono ?_;rintro e w' ⟨rfl,q1,q2⟩)
   go_end0;exact⟨rfl,by rw[←HV.out.2];exact q1,hF.trans' q2 (fun i hi=>.inl (.inl hi))⟩
theorem subtract_nt (b g c h N M:Nat) (w:World) (hS:Sm N) (hS2:Sm M) (hge:M≤N) (hN:Nt w b g N) (hM:Nt w c h M) (n1:c≠b) (n2:c≠g) (n3:h≠b) (n4:h≠g):
 Calls Tryz.prog 118 #[.pointer (some ⟨b,0,none⟩),.pointer (some ⟨c,0,none⟩)] w fun e w'=>e=.returned (.tuple #[])∧Nt w' b g (N-M)∧Fr (fun i=>i=b∨i=g) w w':=by
 obtain⟨ws,h1,h2,h3,rfl⟩:=hN;obtain⟨ms,k1,k2,k3,rfl⟩:=hM;have a:=hS.len h3;have a2:=hS2.len k3;clear hS hS2;refine subtract_any b g c h ws ms w a a2 h2 k2 hge ?_ h1 k1 n1 n2 n3 n4;rcases Nat.lt_or_ge ws.length ms.length with hx|hx
 ·have:=lt_of_len ws ms h2 k3 hx;omega
 ·exact hx
def Nats (w:World):List (Nat×Nat×Nat)→Prop
 |[]=>True
 |t::r=>Nt w t.1 t.2.1 t.2.2∧(∀u∈r,t.1≠u.1∧t.1≠u.2.1∧t.2.1≠u.1∧t.2.1≠u.2.1)∧Nats w r
theorem Nats.perm {w:World} {l l':List (Nat×Nat×Nat)} (p:l.Perm l'):Nats w l→Nats w l':=by
 induction p with
 |nil=>exact id
 |cons x p ih=>rintro⟨h1,h2,h3⟩;exact⟨h1,fun u hu=>h2 u (p.mem_iff.2 hu),ih h3⟩
 |swap x y l=>
  rintro⟨h1,h2,h3,h4,h5⟩;refine⟨h3,?_,h1,fun u hu=>h2 u (List.mem_cons_of_mem _ hu),h5⟩;intro u hu;rcases List.mem_cons.1 hu with rfl|hu
  ·obtain⟨a,b,c,d⟩:=h2 x List.mem_cons_self;exact⟨a.symm,c.symm,b.symm,d.symm⟩
  ·exact h4 u hu
 |trans _ _ a b=>exact fun h=>b (a h)
theorem Nats.nt {w:World} {l:List (Nat×Nat×Nat)} (h:Nats w l):∀t∈l,Nt w t.1 t.2.1 t.2.2:=by
 induction l with
 |nil=>intro t ht;cases ht
 |cons x r ih=>
  intro t ht;rcases List.mem_cons.1 ht with rfl|ht
  ·exact h.1
  ·exact ih h.2.2 t ht
theorem Nats.frame {w w':World} {l:List (Nat×Nat×Nat)} {S:Nat→Prop} (h:Nats w l) (hf:Fr S w w') (hS:∀t∈l,¬S t.1∧¬S t.2.1):Nats w' l:=by
 induction l with
 |nil=>trivial
 |cons x r ih=>exact⟨h.1.frame hf (hS x List.mem_cons_self).1 (hS x List.mem_cons_self).2,h.2.1,ih h.2.2 (fun t ht=>hS t (List.mem_cons_of_mem _ ht))⟩
def Sx (S A:Nat→Prop) (w0 w:World) (l:List (Nat×Nat)):Prop:=
 ∃L:List (Nat×Nat×Nat),L.map (fun t=>(t.1,t.2.2))=l∧Nats w L∧Fr S w0 w∧(∀t∈L,((S t.1∨w0.heap.size≤t.1)∧(S t.2.1∨w0.heap.size≤t.2.1))∧¬A t.1∧¬A t.2.1)∧∀i,A i→i<w.heap.size
theorem Sx.fr {S A:Nat→Prop} {w0 w:World} {l:List (Nat×Nat)} (h:Sx S A w0 w l):Fr S w0 w:=h.choose_spec.2.2.1
theorem map_perm {α β:Type} (f:α→β) {L:List α} {l':List β} (p:(L.map f).Perm l'):∃L',L.Perm L'∧L'.map f=l':=by
 generalize hl:L.map f=l at p
 induction p generalizing L with
 |nil=>exact⟨L,List.Perm.refl _,by simpa using hl⟩
 |cons x p ih=>
  cases L with
  |nil=>simp at hl
  |cons y r=>
   simp at hl;obtain⟨r',p1,p2⟩:=ih hl.2;exact⟨y::r',p1.cons _,by simp[hl.1,p2]⟩
 |swap x y l=>
  match L,hl with
  |a::b::r,hl=>
   simp at hl;exact⟨b::a::r,List.Perm.swap _ _ _,by simp[hl.1,hl.2.1,hl.2.2]⟩
 |trans _ _ ih1 ih2=>
  obtain⟨L1,p1,e1⟩:=ih1 hl;obtain⟨L2,p2,e2⟩:=ih2 e1;exact⟨L2,p1.trans p2,e2⟩
theorem Sx.perm {S A:Nat→Prop} {w0 w:World} {l l':List (Nat×Nat)} (h:Sx S A w0 w l) (p:l.Perm l'):Sx S A w0 w l':=by
 obtain⟨L,rfl,h2,h3,h4,h5⟩:=h;obtain⟨L',p',e⟩:=map_perm _ p;exact⟨L',e,h2.perm p',h3,fun t ht=>h4 t (p'.mem_iff.2 ht),h5⟩
theorem Sx.swap {S A:Nat→Prop} {w0 w:World} {x y:Nat×Nat} {l:List (Nat×Nat)} (h:Sx S A w0 w (x::y::l)):Sx S A w0 w (y::x::l):=h.perm (List.Perm.swap _ _ _)
theorem Sx.drewN {S A:Nat→Prop} {w0 w:World} {l:List (Nat×Nat)} (h:Sx S A w0 w l) (m:Nat):Sx S A w0 (w.drewN m) l:=by
 obtain⟨L,h1,h2,h3,h4,h5⟩:=h;exact⟨L,h1,h2.frame (S:=fun _=>False) ((Fr.refl _ w).drewN m) (fun _ _=>⟨id,id⟩),h3.drewN m,h4,h5⟩
theorem Sx.other {S A:Nat→Prop} {w0 w w':World} {l:List (Nat×Nat)} (h:Sx S A w0 w l) {T:Nat→Prop} (hf:Fr T w w') (hT:∀i,T i→(S i∨w0.heap.size≤i)) (hA:∀i,T i→A i):Sx S A w0 w' l:=by
 obtain⟨L,h1,h2,h3,h4,h5⟩:=h;exact⟨L,h1,h2.frame hf (fun t ht=>⟨fun e=>(h4 t ht).2.1 (hA _ e),fun e=>(h4 t ht).2.2 (hA _ e)⟩),h3.trans' hf hT,h4,fun i hi=>Nat.lt_of_lt_of_le (h5 i hi) hf.size⟩
theorem Sx.alloc {S A:Nat→Prop} {w0 w:World} {l:List (Nat×Nat)} (h:Sx S A w0 w l) (o:Obj):Sx S (fun i=>A i∨i=w.heap.size) w0 (w.alloc o) l:=by
 obtain⟨L,h1,h2,h3,h4,h5⟩:=h;refine⟨L,h1,h2.frame (S:=fun _=>False) ((Fr.refl _ w).alloc o) (fun _ _=>⟨id,id⟩),h3.alloc o,fun t ht=>⟨(h4 t ht).1,?_,?_⟩,?_⟩
 ·rintro(e|e)
  ·exact(h4 t ht).2.1 e
  ·have:=(h2.nt t ht).lt;omega
 ·rintro(e|e)
  ·exact(h4 t ht).2.2 e
  ·have:=(h2.nt t ht).lt;omega
 ·rintro i (hi|hi)
  ·have:=h5 i hi;simp;omega
  ·simp;omega
theorem Sx.weaken {S A A':Nat→Prop} {w0 w:World} {l:List (Nat×Nat)} (h:Sx S A w0 w l) (hA:∀i,A' i→A i):Sx S A' w0 w l:=by
 obtain⟨L,h1,h2,h3,h4,h5⟩:=h;exact⟨L,h1,h2,h3,fun t ht=>⟨(h4 t ht).1,fun e=>(h4 t ht).2.1 (hA _ e),fun e=>(h4 t ht).2.2 (hA _ e)⟩,fun i hi=>h5 i (hA i hi)⟩
theorem Sx.tail {S A:Nat→Prop} {w0 w:World} {x:Nat×Nat} {l:List (Nat×Nat)} (h:Sx S A w0 w (x::l)):Sx S A w0 w l:=by
 obtain⟨L,h1,h2,h3,h4,h5⟩:=h;cases L with
 |nil=>simp at h1
 |cons t r=>simp at h1;exact⟨r,h1.2,h2.2.2,h3,fun u hu=>h4 u (List.mem_cons_of_mem _ hu),h5⟩
theorem Sx.start {A:Nat→Prop} (w:World) (hA:∀i,A i→i<w.heap.size):Sx (fun _=>False) A w w []:=
 ⟨[],rfl,trivial,Fr.refl _ _,by simp,hA⟩
theorem Sx.step {S A:Nat→Prop} {w0 w w':World} {b N N':Nat} {l:List (Nat×Nat)} {L:List (Nat×Nat×Nat)} {g g':Nat} (hL:L.map (fun t=>(t.1,t.2.2))=l)
 (h2:Nats w ((b,g,N)::L)) (h3:Fr S w0 w) (h4:∀t∈(b,g,N)::L,((S t.1∨w0.heap.size≤t.1)∧(S t.2.1∨w0.heap.size≤t.2.1))∧¬A t.1∧¬A t.2.1) (h5:∀i,A i→i<w.heap.size)
 (r1:Nt w' b g' N') (r2:Fr (fun i=>i=b∨i=g) w w') (r3:g'=g∨w.heap.size≤g'):Sx S A w0 w' ((b,N')::l):=by
 have hb:=h4 _ List.mem_cons_self;have hlt:=h2.nt _ List.mem_cons_self;have hlt:=hlt.lt;simp only at hb hlt;refine⟨(b,g',N')::L,by simp[hL],⟨r1,fun u hu=>?_,h2.2.2.frame r2 (fun u hu=>?_)⟩,h3.trans' r2 ?_,?_,fun i hi=>Nat.lt_of_lt_of_le (h5 i hi) r2.size⟩
 ·have a:=h2.2.1 u hu
  have c:=(h2.2.2.nt u hu).lt;simp only at a ⊢;omega
 ·have a:=h2.2.1 u hu
  simp only at a;omega
 ·rintro i (rfl|rfl)
  ·exact hb.1.1
  ·exact hb.1.2
 ·intro t ht
  rcases List.mem_cons.1 ht with rfl|ht
  ·refine⟨⟨hb.1.1,?_⟩,hb.2.1,?_⟩
   ·rcases r3 with rfl|r3
    ·exact hb.1.2
    ·have:=h3.size;exact .inr (by simp only;omega)
   ·rcases r3 with rfl|r3
    ·exact hb.2.2
    ·intro e;have:=h5 _ e;simp only at this;omega
  ·exact h4 t (List.mem_cons_of_mem _ ht)
theorem sx_op {S A:Nat→Prop} {w0 w:World} {b N N' f:Nat} {args:Array Value} {l:List (Nat×Nat)} {e0:Ending}
 (hc:∀g,Nt w b g N→Calls Tryz.prog f args w fun e w'=>e=e0∧∃g',Nt w' b g' N'∧Fr (fun i=>i=b∨i=g) w w'∧(g'=g∨w.heap.size≤g'))
 (h:Sx S A w0 w ((b,N)::l)):Calls Tryz.prog f args w fun e w'=>e=e0∧Sx S A w0 w' ((b,N')::l):=by
 obtain⟨L,h1,h2,h3,h4,h5⟩:=h;cases L with
 |nil=>simp at h1
 |cons t L=>
  obtain⟨b',g,N0⟩:=t;simp at h1;obtain⟨⟨rfl,rfl⟩,h1⟩:=h1;refine(hc g h2.1).mono ?_;rintro e w' ⟨rfl,g',r1,r2,r3⟩;exact⟨rfl,Sx.step h1 h2 h3 h4 h5 r1 r2 r3⟩
theorem timesPowerOfTen_sx {S A:Nat→Prop} {w0 w:World} {l:List (Nat×Nat)} (b N k:Nat) (hS:Sm (N*p10 k)) (hk:k≤100000) (h:Sx S A w0 w ((b,N)::l)):
 Calls Tryz.prog 161 #[.pointer (some ⟨b,0,none⟩),.int .i64 k] w fun e w'=>e=.returned (.tuple #[])∧Sx S A w0 w' ((b,N*p10 k)::l):=
 sx_op (fun g hg=>timesPowerOfTen_nt b g N k w hS hg hk) h
theorem shiftLeft_sx {S A:Nat→Prop} {w0 w:World} {l:List (Nat×Nat)} (b N k:Nat) (hk:k≤30000) (hS:Sm (2^k*N)) (h:Sx S A w0 w ((b,N)::l)):
 Calls Tryz.prog 114 #[.pointer (some ⟨b,0,none⟩),.int .i64 k] w fun e w'=>e=.returned (.tuple #[])∧Sx S A w0 w' ((b,2^k*N)::l):=
 sx_op (fun g hg=>shiftLeft_nt b g N k w hk hg hS) h
theorem subtract_sx {S A:Nat→Prop} {w0 w:World} {l:List (Nat×Nat)} (b N c M:Nat) (hS:Sm N) (hS2:Sm M) (hge:M≤N) (h:Sx S A w0 w ((b,N)::(c,M)::l)):
 Calls Tryz.prog 118 #[.pointer (some ⟨b,0,none⟩),.pointer (some ⟨c,0,none⟩)] w fun e w'=>e=.returned (.tuple #[])∧Sx S A w0 w' ((b,N-M)::(c,M)::l):=by
 obtain⟨L,h1,h2,h3,h4,h5⟩:=h
 match L,h1 with
 |(b',g,N0)::(c',h',M0)::L,e1=>
  simp at e1;obtain⟨⟨rfl,rfl⟩,⟨rfl,rfl⟩,e1⟩:=e1;have hd:=h2.2.1 _ List.mem_cons_self;simp only at hd;refine(subtract_nt b' g c' h' N0 M0 w hS hS2 hge h2.1 h2.2.2.1 hd.1.symm hd.2.2.1.symm hd.2.1.symm hd.2.2.2.symm).mono ?_;rintro e w' ⟨rfl,r1,r2⟩;exact⟨rfl,Sx.step (by simp[e1]) h2 h3 h4 h5 r1 r2 (.inl rfl)⟩
theorem Sx.head {S A:Nat→Prop} {w0 w:World} {l:List (Nat×Nat)} {b N:Nat} (h:Sx S A w0 w ((b,N)::l)):∃g,Nt w b g N:=by
 obtain⟨L,h1,h2,h3,h4,h5⟩:=h
 match L,h1 with
 |(b',g,N0)::L,h1=>
  simp at h1;obtain⟨⟨rfl,rfl⟩,h1⟩:=h1;exact⟨g,h2.1⟩
theorem compare_sx {S A:Nat→Prop} {w0 w:World} {l l2:List (Nat×Nat)} (b N c M:Nat) (hS:Sm N) (hS2:Sm M) (h:Sx S A w0 w ((b,N)::l)) (h2:Sx S A w0 w ((c,M)::l2)):
 Calls Tryz.prog 120 #[.pointer (some ⟨b,0,none⟩),.pointer (some ⟨c,0,none⟩)] w fun e w'=>∃r:Int,e=.returned (.int .i64 r)∧(r<0↔N<M)∧(r=0↔N=M)∧ -1000000≤r∧r≤1000000∧∃m,w'=w.drewN m:=by
 obtain⟨g,hg⟩:=h.head;obtain⟨g2,hg2⟩:=h2.head;exact compare_nt b g c g2 N M w hS hS2 hg hg2
theorem length_sx {S A:Nat→Prop} {w0 w:World} {l:List (Nat×Nat)} (b N:Nat) (hS:Sm N) (h:Sx S A w0 w ((b,N)::l)):
 Calls Tryz.prog 162 #[.pointer (some ⟨b,0,none⟩)] w fun e w'=>e=.returned (.int .i64 (nlen N:Nat))∧w'=w:=by
 obtain⟨g,hg⟩:=h.head;exact length_nt b g N w hS hg
theorem Sx.more {S A:Nat→Prop} {w0 w w':World} {l:List (Nat×Nat)} {b g N:Nat} (h:Sx S A w0 w l) (r1:Nt w' b g N) (r2:Fr (fun _=>False) w w') (r3:w.heap.size≤b) (r4:w.heap.size≤g):Sx S A w0 w' ((b,N)::l):=by
 obtain⟨L,h1,h2,h3,h4,h5⟩:=h;have hs:=h3.size;refine⟨(b,g,N)::L,by simp[h1],⟨r1,fun u hu=>?_,h2.frame r2 (fun _ _=>⟨id,id⟩)⟩,h3.trans' r2 (fun i hi=>hi.elim),?_,fun i hi=>Nat.lt_of_lt_of_le (h5 i hi) r2.size⟩
 ·have c:=(h2.nt u hu).lt
  simp only;omega
 ·intro t ht
  rcases List.mem_cons.1 ht with rfl|ht
  ·simp only
   exact⟨⟨.inr (by omega),.inr (by omega)⟩,fun e=>by have:=h5 _ e;omega,fun e=>by have:=h5 _ e;omega⟩
  ·exact h4 t ht
theorem newNatural_sx {S A:Nat→Prop} {w0 w:World} {l:List (Nat×Nat)} (n:Nat) (hn:n<18446744073709551616) (h:Sx S A w0 w l):
 Calls Tryz.prog 111 #[.int .u64 n] w fun e w'=>∃b,e=.returned (.pointer (some ⟨b,0,none⟩))∧Sx S A w0 w' ((b,n)::l)∧w.heap.size≤b∧Fr (fun _=>False) w w':=by
 refine(newNatural_nt n w hn).mono ?_;rintro e w' ⟨b,g,rfl,r1,r2,r3,r4⟩;exact⟨b,rfl,h.more r1 r2 r3 r4,r3,r2⟩
def p2 (k:Nat):Nat:=2^k
theorem p2_pos (k:Nat):0<p2 k:=Nat.two_pow_pos k
theorem p2_add (a b:Nat):p2 (a+b)=p2 a*p2 b:=Nat.pow_add ..
theorem p2_succ (a:Nat):p2 (a+1)=2*p2 a:=by unfold p2;rw[Nat.pow_succ,Nat.mul_comm]
theorem p2_le {a b:Nat} (h:a≤b):p2 a≤p2 b:=Nat.pow_le_pow_right (by omega) h
theorem p2_53:p2 53=9007199254740992:=by decide
def Pre (N M N1 M1 E:Nat):Prop:=N*p2 1074*M1=N1*p2 53*p2 E*M
theorem pre_double {N M N1 M1 E:Nat} (h:Pre N M N1 M1 E):Pre N M N1 (2*M1) (E+1):=by
 unfold Pre at*;rw[Nat.mul_left_comm,h,p2_succ E];simp only[Nat.mul_assoc,Nat.mul_left_comm]
theorem scale_up (N M d e sh:Nat) (hN1:N<p2 d) (hN2:p2 d≤2*N) (hM1:M<p2 e) (hM2:p2 e≤2*M) (hsh:sh+e=d):
 Pre N M N (p2 sh*M) (sh+1021)∧N<2*(p2 sh*M)∧p2 sh*M<2*N:=by
 subst hsh;rw[p2_add]at*;have hp:=p2_pos sh;refine⟨?_,?_,?_⟩
 ·unfold Pre
  rw[p2_add,p2_add 53 1021];simp only[Nat.mul_assoc,Nat.mul_left_comm]
 ·have:p2 sh*p2 e≤p2 sh*(2*M):=Nat.mul_le_mul_left _ hM2
  rw[Nat.mul_left_comm]at this;omega
 ·have:p2 sh*M<p2 sh*p2 e:=Nat.mul_lt_mul_of_pos_left hM1 hp
  omega
theorem scale_down (N M d e k:Nat) (hN1:N<p2 d) (hN2:p2 d≤2*N) (hM1:M<p2 e) (hM2:p2 e≤2*M) (hk:d+k=e) (hk2:k≤1021):
 Pre N M (p2 k*N) M (1021-k)∧p2 k*N<2*M∧M<2*(p2 k*N):=by
 subst hk;rw[p2_add]at*;have hp:=p2_pos k;refine⟨?_,?_,?_⟩
 ·unfold Pre
  have:p2 1074=p2 53*(p2 k*p2 (1021-k)):=by rw[←p2_add,←p2_add];congr 1;omega
  rw[this];simp only[Nat.mul_assoc,Nat.mul_left_comm]
 ·have:p2 k*N<p2 k*p2 d:=Nat.mul_lt_mul_of_pos_left hN1 hp
  rw[Nat.mul_comm (p2 k) (p2 d)]at this;omega
 ·have:p2 k*p2 d≤p2 k*(2*N):=Nat.mul_le_mul_left _ hN2
  rw[Nat.mul_comm (p2 k) (p2 d),Nat.mul_left_comm]at this;omega
theorem scale_low (N M d e:Nat) (hN1:N<p2 d) (hM2:p2 e≤2*M) (hlow:d+1022≤e):
 Pre N M (p2 1021*N) M 0∧p2 1021*N<M:=by
 refine⟨?_,?_⟩
 ·unfold Pre
  rw[p2_add 53 1021,show p2 0=1 from rfl];simp only[Nat.mul_assoc,Nat.mul_left_comm,Nat.one_mul]
 ·have h1:p2 1021*N<p2 1021*p2 d:=Nat.mul_lt_mul_of_pos_left hN1 (p2_pos _)
  rw[←p2_add]at h1;have h2:2*p2 (1021+d)≤p2 e:=by rw[←p2_succ];exact p2_le (by omega)
  omega
theorem rnd_end {N M N1 M2 E m R:Nat} (hM:0<M) (hM2:0<M2) (hp:Pre N M N1 M2 E) (hdiv:N1*p2 53=m*M2+R) (hR:R<M2) (hlt:N1<M2) (hbig:E=0∨M2≤2*N1):
 m<9007199254740992∧∀r,r=E*4503599627370496+m+(if M2<2*R∨(2*R=M2∧m % 2=1)then 1 else 0)→Rnd (N*p2 1074) M r:=by
 have h53:=p2_53
 have hm:m<9007199254740992:=by
  rcases Nat.lt_or_ge m 9007199254740992 with h|h
  ·exact h
  ·exfalso
   have a:9007199254740992*M2≤m*M2:=Nat.mul_le_mul_right _ h;rw[h53]at hdiv;omega
 refine⟨hm,fun r hr=>rnd_of hM hM2 hR ?_ ?_ hr⟩
 ·rcases hbig with h|h
  ·exact .inl ⟨h,hm⟩
  ·right
   refine⟨?_,hm⟩;rcases Nat.lt_or_ge m 4503599627370496 with h1|h1
   ·exfalso
    have a:(m+1)*M2≤4503599627370496*M2:=Nat.mul_le_mul_right _ h1;rw[h53]at hdiv;rw[Nat.add_mul]at a;omega
   ·exact h1
 ·unfold Pre at hp
  rw[hp,hdiv];rfl
theorem step_div {N1 M2 m R i:Nat} (h:N1*p2 i=m*M2+R):N1*p2 (i+1)=(2*m)*M2+2*R:=by
 rw[p2_succ,Nat.mul_left_comm,h,Nat.mul_add,Nat.mul_assoc]
end Go.Proofs.YtmkkibaacclhnaaGreatDoor
