/-
  A step of the walk, the part named Bgk. No theorem of the row.
-/
import Derived.Test.YtmkkibaacclhnaaGreatDoorPd
namespace Go.Proofs.YtmkkibaacclhnaaGreatDoor
open Go.RowKit
set_option maxRecDepth 100000
set_option maxHeartbeats 16000000
def usB (ws:List Nat):List Value:=ws.map (fun x:Nat=>Value.int .u64 (x:Int))
theorem us_lengthB (ws:List Nat):(usB ws).length=ws.length:=by simp[usB]
theorem us_appendB (a b:List Nat):usB (a++b)=usB a++usB b:=by simp[usB]
theorem Tryz.info27:(Tryz.prog.info? 27).map (fun i=>(i.zero,i.size,i.bytes))=some (some (.int .u64 0),1,8):=by kernel_rfl
def BigAt (w:World) (v:Value) (ws:List Nat):Prop:=w.ownsRow 0 27 1 v ws.length (usB ws)∧Limbs ws
theorem BigAt.fr {w w':World} {v:Value} {ws:List Nat} (h:BigAt w v ws) (hF:Fr (fun _=>False) w w'):BigAt w' v ws:=⟨ownsRow_fr h.1 hF,h.2⟩
theorem big_shape {w:World} {v:Value} {ws:List Nat} (h:BigAt w v ws):∃a cap,v=.slice a ws.length cap:=by
 rcases h.1.2 with⟨h1,h2⟩|⟨g,cap,cur,hv,_⟩
 ·exact⟨none,0,by rw[h1,h2]⟩
 ·exact⟨_,cap,hv⟩
theorem big_cell {w:World} {a:Option Addr} {cap:Nat} {ws:List Nat} (h:BigAt w (.slice a ws.length cap) ws) (k:Nat) (hk:k<ws.length):∃g,a=some ⟨g,0,none⟩∧w.cell? ⟨g,k,none⟩=some (.int .u64 (ws[k]:Nat)):=by
 obtain⟨g,cap',hv⟩:=row_pos h.1 (by omega);simp at hv;obtain⟨rfl,rfl⟩:=hv;refine⟨g,rfl,?_⟩;rw[h.1.cellAt k (by omega),usB,List.getElem?_map,List.getElem?_eq_getElem hk];rfl
def BigPost (w:World) (N L:Nat) (e:Ending) (w':World):Prop:=∃v' ws',e=.returned v'∧BigAt w' v' ws'∧val ws'=N∧ws'.length≤L∧Fr (fun _=>False) w w'
def BigPostS (w:World) (N L:Nat) (e:Ending) (w':World):Prop:=∃v' ws',e=.returned v'∧v'≠.slice none 0 0∧BigAt w' v' ws'∧val ws'=N∧ws'.length≤L∧Fr (fun _=>False) w w'
theorem BigPostS.any {w:World} {N L:Nat} {e:Ending} {w':World} (h:BigPostS w N L e w'):BigPost w N L e w':=by
 obtain⟨v',ws',h1,_,h2⟩:=h;exact⟨v',ws',h1,h2⟩
theorem btimes_s (v:Value) (ws:List Nat) (m c:Nat) (w:World) (hl:ws.length≤1000000000) (hm:m<4294967296) (hc:c<4294967296) (hB:BigAt w v ws):
 Calls Tryz.prog 223 #[v,.int .u64 (m:Int),.int .u64 (c:Int)] w (BigPostS w (m*val ws+c) (ws.length+1)):=by
 obtain⟨a,cap,rfl⟩:=big_shape hB;obtain⟨i0,hi,hz0,hz1,hz2⟩:=info_parts Tryz.info27;have hmk:=fun wx=>run_make (P:=Tryz.prog) wx 226 27 i0 (.int .u64 0) Tryz.underlying226 hi hz0 .i64 .i64 0 ((ws.length:Int)+2) (by omega) (by omega) (by rw[hz2];omega) (by omega)
 rw[hz1]at hmk;go_enter Tryz.func223,Tryz.ntmps223;go_wp2
 have hst:(w.alloc (.cells (madeCells #[Value.int .u64 0] (ws.length+2)) 27)).ownsRow w.heap.size 27 1 (.slice (some ⟨w.heap.size,0,none⟩) 0 (ws.length+2)) 0 (usB []):=
  ⟨rfl,.inr ⟨_,_,_,rfl,Nat.le_refl _,heap_alloc_new _ _,by omega,by unfold maxLen;omega,by rw[size_madeCells];omega,by simp[usB]⟩⟩
 have HST:=hid hst;have HB:=hid hB;clear hst hmk
 go_loopw [2,7,8] (fun cy out i wr=>∃(k:Nat) (os:List Nat) (y:Nat),k≤ws.length∧os.length=k∧Limbs os∧y<4294967296∧Hid (val os+4294967296^k*y=m*val (ws.take k)+c)∧cy=.int .u64 y∧i=.int .i64 k∧
  Hid (wr.ownsRow w.heap.size 27 1 out k (usB os))∧Hid (out≠.slice none 0 0)∧Hid (Fr (fun _=>False) w wr)) (fun _ _ i _=>ws.length-(intOf i).toNat)
 case atStart=>exact⟨0,[],c,Nat.zero_le _,rfl,(by intro x hx;cases hx),hc,(by simp[Hid,val]),rfl,rfl,HST,hid (by simp),hid ((Fr.refl _ _).alloc _)⟩
 case round=>
  obtain⟨k,os,y,hk,hos,hlo,hy,hE,rfl,rfl,ho,hnil,hF⟩:=hrel;by_cases hlt:k<ws.length
  ·have hx:ws[k]<4294967296:=hB.2 _ (List.getElem_mem hlt)
   obtain⟨g,rfl,hcx⟩:=big_cell (hB.fr hF.out) k hlt;have hm1:ws[k]*m≤4294967295*4294967295:=Nat.mul_le_mul (by omega) (by omega);have hm2:((ws[k]*m:Nat):Int)=(ws[k]:Int)*(m:Int):=Int.natCast_mul _ _;have hw1:IntKind.u64.wrap ((ws[k]:Int)*(m:Int))=((ws[k]*m:Nat):Int):=by rw[←hm2,IntWalk.u64_in _ (by omega)]
   have hw2:IntKind.u64.wrap (((ws[k]*m:Nat):Int)+(y:Int))=((y+ws[k]*m:Nat):Int):=by rw[IntWalk.u64_in _ (by omega)];omega
   have hE2:=hid (tp_val os ws m c y k hlt hos hE.out);have hbs:w.heap.size≤wr.heap.size:=hF.out.size;clear hE hm2;generalize ws[k]*m=q at*;have HO:=ho;have hd1:=hid (show((y+q:Nat):Int)/4294967296=(((y+q)/4294967296:Nat):Int) by omega);have hd2:=hid (show((y+q:Nat):Int) % 4294967296=(((y+q) % 4294967296:Nat):Int) by omega);have hs64:=hid (show y+q<18446744073709551616 by omega);clear hm1;generalize y+q=s at*;clear ho
   go_wp2_with (first
    |(at_builtin;refine wpList_append_own _ rfl _ _ 226 rfl w.heap.size 27 i0 (.int .u64 0) 1 8 Tryz.underlying226 hi hz0 hz1 hz2 rfl (by decide) _ _ _ rfl (HO.out.alloc _) ⟨wr.heap.size,0,none⟩ 1 1 [.int .u64 ((s:Int) % 4294967296)] rfl rfl ?c1 ?c2 ?c3 ?c4 ?c5 ?_)
    |go_in)
   case c1=>exact cell_one_new _ _ _
   case c2=>intro u hu;simp at hu;subst hu;rfl
   case c3=>unfold maxLen;omega
   case c4=>omega
   case c5=>simp;omega
   intro v' w1 hown' hgrow _;have HNIL:=hid (show v'≠.slice none 0 0 from by obtain⟨g',cap',rfl⟩:=row_succ hown';simp);have HO1:=hid hown';have HF1:=hid ((hF.out.alloc (.cells #[.int .u64 ((s:Int) % 4294967296)] 27)).grown hgrow (fun j hj=>.inr (HO.out.lt j hj).1));clear hown' hgrow;go_wp2;go_roundw
   case rel=>
    refine⟨k+1,os++[s % 4294967296],s/4294967296,hlt,by simp[hos],hlo.append (Limbs.one (by omega)),by have:=hs64.out;omega,hE2,by rw[hd1.out],by go_num,hid ?_,HNIL,HF1⟩;rw[us_appendB];have:=HO1.out;rw[hd2.out]at this;exact this
   case measure=>simp[intOf];omega
  ·obtain rfl:k=ws.length:=by omega
   rw[List.take_length]at hE;go_wp2
   go_loopw [2,7] (fun cy out wr=>∃(os:List Nat) (y:Nat),Limbs os∧y<4294967296∧Hid (val os+4294967296^os.length*y=m*val ws+c)∧(os.length=ws.length∨(y=0∧os.length=ws.length+1))∧cy=.int .u64 y∧
    Hid (wr.ownsRow w.heap.size 27 1 out os.length (usB os))∧Hid (out≠.slice none 0 0)∧Hid (Fr (fun _=>False) w wr)) (fun cy _ _=>(intOf cy).toNat)
   case atStart=>exact⟨os,y,hlo,hy,by rw[hos];exact hE,.inl hos,rfl,by rw[hos];exact ho,hnil,hF⟩
   case round=>
    clear hE ho hF hlo hy hos hnil;obtain⟨os,y,hlo,hy,hE,hd,rfl,ho,hnil,hF⟩:=hrel;by_cases hy0:y=0
    ·subst hy0
     go_wp2;go_ret;refine⟨_,os,rfl,hnil.out,⟨ownsRow_base ho.out,hlo⟩,?_,by omega,hF.out⟩;have:=hE.out;rw[Nat.mul_zero,Nat.add_zero]at this;exact this
    ·have hpos:0<y:=by omega
     have hol:os.length=ws.length:=by omega
     have hd1:(y:Int)/4294967296=0:=by omega
     have hd2:(y:Int) % 4294967296=y:=by omega
     have hbs:w.heap.size≤wr.heap.size:=hF.out.size;have HY0:=hid hy0;clear hd hy0
     go_wp2_with (first
      |(at_builtin;refine wpList_append_own _ rfl _ _ 226 rfl w.heap.size 27 i0 (.int .u64 0) 1 8 Tryz.underlying226 hi hz0 hz1 hz2 rfl (by decide) _ _ _ rfl (ho.out.alloc _) ⟨wr.heap.size,0,none⟩ 1 1 [.int .u64 (y:Int)] rfl rfl ?c1 ?c2 ?c3 ?c4 ?c5 ?_)
      |go_in)
     case c1=>exact cell_one_new _ _ _
     case c2=>intro u hu;simp at hu;subst hu;rfl
     case c3=>unfold maxLen;omega
     case c4=>omega
     case c5=>simp;omega
     intro v' w1 hown' hgrow _;have HNIL:=hid (show v'≠.slice none 0 0 from by obtain⟨g',cap',rfl⟩:=row_succ hown';simp);have HO1:=hid hown';have HF1:=hid ((hF.out.alloc (.cells #[.int .u64 (y:Int)] 27)).grown hgrow (fun j hj=>.inr (ho.out.lt j hj).1));clear hown' hgrow;go_wp2;go_roundw
     case rel=>
      refine⟨os++[y],0,hlo.append (Limbs.one hy),by omega,hid ?_,.inr ⟨rfl,by simp[hol]⟩,rfl,hid ?_,HNIL,HF1⟩
      ·rw[val_snoc,Nat.mul_zero,Nat.add_zero];exact hE.out
      ·rw[us_appendB,List.length_append,hol];exact HO1.out
     case measure=>simp[intOf];have:=HY0.out;omega
theorem btimes_any (v:Value) (ws:List Nat) (m c:Nat) (w:World) (hl:ws.length≤1000000000) (hm:m<4294967296) (hc:c<4294967296) (hB:BigAt w v ws):
 Calls Tryz.prog 223 #[v,.int .u64 (m:Int),.int .u64 (c:Int)] w (BigPost w (m*val ws+c) (ws.length+1)):=
 (btimes_s v ws m c w hl hm hc hB).mono (fun _ _ h=>h.any)
def TensInv (w:World) (N L:Nat) (v:Value) (k:Nat) (wr:World):Prop:=∃ws,BigAt wr v ws∧val ws*p10 k=N∧ws.length+k≤L∧Fr (fun _=>False) w wr
theorem tens_step {w wr w1:World} {N L:Nat} {k j f:Nat} {e:Ending} {ws:List Nat} (h2:val ws*p10 k=N) (h3:ws.length+k≤L) (hj:j+1≤k) (hf:p10 k=f*p10 j) (hF:Fr (fun _=>False) w wr) (hp:BigPost wr (f*val ws+0) (ws.length+1) e w1):
 ∃v',e=.returned v'∧TensInv w N L v' j w1:=by
 obtain⟨v',ws',rfl,b1,b2,b3,b4⟩:=hp;refine⟨v',rfl,ws',b1,?_,by omega,hF.trans b4⟩;rw[b2,←h2,hf,Nat.add_zero,Nat.mul_comm f,Nat.mul_assoc]
theorem btens_any (v:Value) (ws:List Nat) (n:Nat) (w:World) (hl:ws.length+n≤100000000) (hB:BigAt w v ws):
 Calls Tryz.prog 208 #[v,.int .i64 (n:Int)] w (BigPost w (val ws*p10 n) (ws.length+n)):=by
 have HB:=hid (show TensInv w (val ws*p10 n) (ws.length+n) v n w from⟨ws,hB,rfl,Nat.le_refl _,Fr.refl _ _⟩);clear hB;go_enter Tryz.func208,Tryz.ntmps208;go_wp2
 go_loopw [0,1] (fun a i wr=>∃k:Nat,k≤n∧i=.int .i64 k∧Hid (TensInv w (val ws*p10 n) (ws.length+n) a k wr)) (fun _ i _=>(intOf i).toNat)
 case atStart=>exact⟨n,Nat.le_refl _,rfl,HB⟩
 case round=>
  obtain⟨k,hk,rfl,hI⟩:=hrel;clear HB;by_cases h9:9≤k
  ·obtain⟨usB,b1,b2,b3,b4⟩:=hI.out
   have B1:=hid b1;have B2:=hid b2;have B4:=hid b4;clear hI b1 b2 b4
   go_wp2_with fail
   refine(btimes_any _ usB 1000000000 0 _ (by omega) (by omega) (by omega) B1.out).mono ?_;intro e w1 hp;obtain⟨v',rfl,hI2⟩:=tens_step (j:=k-9) B2.out b3 (by omega) (by rw[show p10 k=p10 (9+(k-9))from by congr 1;omega,p10_add];rfl) B4.out hp;have HI2:=hid hI2;clear hI2 hp;go_wp2;go_roundw
   case rel=>exact⟨k-9,by omega,by go_num,HI2⟩
   case measure=>simp[intOf];omega
  ·go_wp2
   go_loopw [0,1] (fun a i wr=>∃k:Nat,k≤n∧i=.int .i64 k∧Hid (TensInv w (val ws*p10 n) (ws.length+n) a k wr)) (fun _ i _=>(intOf i).toNat)
   case atStart=>exact⟨k,hk,rfl,hI⟩
   case round=>
    clear hI h9 hk;obtain⟨k,hk,rfl,hI⟩:=hrel;by_cases h0:k=0
    ·subst h0
     go_wp2;go_ret;obtain⟨usB,b1,b2,b3,b4⟩:=hI.out;exact⟨_,usB,rfl,b1,by rw[←b2,show p10 0=1 from rfl,Nat.mul_one],by omega,b4⟩
    ·have hpos:0<k:=by omega
     obtain⟨usB,b1,b2,b3,b4⟩:=hI.out;have B1:=hid b1;have B2:=hid b2;have B4:=hid b4;clear hI b1 b2 b4 h0
     go_wp2_with fail
     refine(btimes_any _ usB 10 0 _ (by omega) (by omega) (by omega) B1.out).mono ?_;intro e w1 hp;obtain⟨v',rfl,hI2⟩:=tens_step (j:=k-1) B2.out b3 (by omega) (by rw[show p10 k=p10 (1+(k-1))from by congr 1;omega,p10_add];rfl) B4.out hp;have HI2:=hid hI2;clear hI2 hp;go_wp2;go_roundw
     case rel=>exact⟨k-1,by omega,by go_num,HI2⟩
     case measure=>simp[intOf];omega
theorem bwhole_any (l:List UInt8) (w:World) (hl:l.length≤100000000) (hD:AllD l):
 Calls Tryz.prog 207 #[.string (ofL l)] w (BigPost w (num (dv l)) l.length):=by
 have hsz:=ofL_size l;go_enter Tryz.func207,Tryz.ntmps207;go_wp2
 go_loopw [3,4] (fun a i wr=>∃(k:Nat) (ws:List Nat),k≤l.length∧i=.int .i64 k∧Hid (BigAt wr a ws)∧Hid (val ws=num (dv (l.take k)))∧ws.length≤k∧Hid (Fr (fun _=>False) w wr)) (fun _ i _=>l.length-(intOf i).toNat)
 case atStart=>exact⟨0,[],by omega,rfl,hid ⟨World.ownsRow_nil _ _ _ _,by intro x hx;cases hx⟩,hid rfl,by simp,hid (Fr.refl _ _)⟩
 case round=>
  obtain⟨k,ws,hk,rfl,hB,hN,hwl,hF⟩:=hrel;by_cases hlt:k<l.length
  ·have hg:(ofL l)[k]'(by rw[hsz];exact hlt)=l[k]:=ofL_get l k _
   obtain⟨ha,hb⟩:=(isD_iff _).1 (hD _ (List.getElem_mem hlt))
   have hst:=hid (show num (dv (l.take (k+1)))=num (dv (l.take k))*10+(l[k].toNat-48)from by
    rw[List.take_succ_eq_append_getElem hlt,dv_append]
    exact num_snoc _ _)
   generalize hcc:l[k]=c at*;have hcv:=hid (show((c.toNat:Int)-48)=((c.toNat-48:Nat):Int) by omega);clear hcc
   go_wp2_with fail
   rw[hcv.out];refine(btimes_any _ ws 10 (c.toNat-48) _ (by omega) (by omega) (by omega) hB.out).mono ?_;rintro e w1 ⟨v',ws',rfl,b1,b2,b3,b4⟩;have B1:=hid b1;have B2:=hid b2;have B4:=hid b4;clear b1 b2 b4;go_wp2;go_roundw
   case rel=>exact⟨k+1,ws',by omega,by go_num,B1,hid (by rw[B2.out,hst.out,hN.out,Nat.mul_comm]),by omega,hid (hF.out.trans B4.out)⟩
   case measure=>simp[intOf];omega
  ·obtain rfl:k=l.length:=by omega
   rw[List.take_length]at hN;go_wp2;go_ret;exact⟨_,ws,rfl,hB.out,hN.out,hwl,hF.out⟩
theorem plus_step (xs ys os:List Nat) (k y:Nat) (hos:os.length=k) (h:val os+4294967296^k*y=val (xs.take k)+val (ys.take k)):
 val (os++[(y+xs[k]?.getD 0+ys[k]?.getD 0) % 4294967296])+4294967296^(k+1)*((y+xs[k]?.getD 0+ys[k]?.getD 0)/4294967296)=val (xs.take (k+1))+val (ys.take (k+1)):=by
 rw[take_val,take_val,val_snoc,hos,Nat.pow_succ,Nat.mul_assoc,Nat.add_assoc,←Nat.mul_add,Nat.mod_add_div,Nat.mul_add,Nat.mul_add];omega
theorem bplus_s (v u:Value) (xs ys:List Nat) (w:World) (hl1:xs.length≤1000000000) (hl2:ys.length≤1000000000) (hA:BigAt w v xs) (hB:BigAt w u ys):
 Calls Tryz.prog 210 #[v,u] w (BigPostS w (val xs+val ys) (max xs.length ys.length+1)):=by
 obtain⟨a,ca,rfl⟩:=big_shape hA;obtain⟨b,cb,rfl⟩:=big_shape hB;obtain⟨i0,hi,hz0,hz1,hz2⟩:=info_parts Tryz.info27;go_enter Tryz.func210,Tryz.ntmps210;go_wp2;have HA:=hid hA;have HB:=hid hB;clear hA hB
 go_loopw [5,6,7] (fun out cy i wr=>∃(k:Nat) (os:List Nat) (y:Nat),k≤max xs.length ys.length∧os.length=k∧Limbs os∧y≤1∧Hid (val os+4294967296^k*y=val (xs.take k)+val (ys.take k))∧cy=.int .u64 y∧i=.int .i64 k∧
  Hid (wr.ownsRow w.heap.size 27 1 out k (usB os))∧Hid (Fr (fun _=>False) w wr)) (fun _ _ i _=>max xs.length ys.length-(intOf i).toNat)
 case atStart=>exact⟨0,[],0,Nat.zero_le _,rfl,(by intro x hx;cases hx),by omega,(by simp[Hid,val]),rfl,rfl,hid (World.ownsRow_nil _ _ _ _),hid (Fr.refl _ _)⟩
 case round=>
  obtain⟨k,os,y,hk,hos,hlo,hy,hE,rfl,rfl,ho,hF⟩:=hrel;have hbs:w.heap.size≤wr.heap.size:=hF.out.size;have hS:=plus_step xs ys os k y hos hE.out;by_cases h1:k<xs.length
  ·by_cases h2:k<ys.length
   ·
    obtain⟨ga,rfl,hcx⟩:=big_cell (HA.out.fr hF.out) k h1;have hxk:xs[k]<4294967296:=HA.out.2 _ (List.getElem_mem h1);have ex:xs[k]?.getD 0=xs[k]:=by rw[List.getElem?_eq_getElem h1];rfl
    obtain⟨gb,rfl,hcy⟩:=big_cell (HB.out.fr hF.out) k h2;have hyk:ys[k]<4294967296:=HB.out.2 _ (List.getElem_mem h2);have ey:ys[k]?.getD 0=ys[k]:=by rw[List.getElem?_eq_getElem h2];rfl
    rw[ex,ey]at hS;have HS:=hid hS;clear hS hE ex ey;generalize xs[k]=p at*;generalize ys[k]=q at*;have hd1:=hid (show((y:Int)+(p:Int)+(q:Int))/4294967296=(((y+p+q)/4294967296:Nat):Int) by omega);have hd2:=hid (show((y:Int)+(p:Int)+(q:Int)) % 4294967296=(((y+p+q) % 4294967296:Nat):Int) by omega)
    go_wp2_with (first
     |(at_builtin;refine wpList_append_own _ rfl _ _ 226 rfl w.heap.size 27 i0 (.int .u64 0) 1 8 Tryz.underlying226 hi hz0 hz1 hz2 rfl (by decide) _ _ _ rfl (ho.out.alloc _) ⟨wr.heap.size,0,none⟩ 1 1 [.int .u64 (((y:Int)+(p:Int)+(q:Int)) % 4294967296)] rfl rfl ?c1 ?c2 ?c3 ?c4 ?c5 ?_)
     |go_in)
    case c1=>exact cell_one_new _ _ _
    case c2=>intro u hu;simp at hu;subst hu;rfl
    case c3=>unfold maxLen;omega
    case c4=>omega
    case c5=>simp;omega
    intro v' w1 hown' hgrow _;have HO1:=hid hown';have HF1:=hid ((hF.out.alloc (.cells #[.int .u64 (((y:Int)+(p:Int)+(q:Int)) % 4294967296)] 27)).grown hgrow (fun j hj=>.inr (ho.out.lt j hj).1));clear hown' hgrow;go_wp2;go_roundw
    case rel=>
     refine⟨k+1,os++[(y+p+q) % 4294967296],(y+p+q)/4294967296,by omega,by simp[hos],hlo.append (Limbs.one (by omega)),by omega,HS,by rw[hd1.out],by go_num,hid ?_,HF1⟩;have:=HO1.out;rw[hd2.out]at this;rw[us_appendB];exact this
    case measure=>simp[intOf];omega
   ·
    obtain⟨ga,rfl,hcx⟩:=big_cell (HA.out.fr hF.out) k h1;have hxk:xs[k]<4294967296:=HA.out.2 _ (List.getElem_mem h1);have ex:xs[k]?.getD 0=xs[k]:=by rw[List.getElem?_eq_getElem h1];rfl
    have ey:ys[k]?.getD 0=0:=by rw[List.getElem?_eq_none (by omega)];rfl
    rw[ex,ey]at hS;have HS:=hid hS;clear hS hE ex ey;generalize xs[k]=p at*;have hd1:=hid (show((y:Int)+(p:Int))/4294967296=(((y+p+0)/4294967296:Nat):Int) by omega);have hd2:=hid (show((y:Int)+(p:Int)) % 4294967296=(((y+p+0) % 4294967296:Nat):Int) by omega)
    go_wp2_with (first
     |(at_builtin;refine wpList_append_own _ rfl _ _ 226 rfl w.heap.size 27 i0 (.int .u64 0) 1 8 Tryz.underlying226 hi hz0 hz1 hz2 rfl (by decide) _ _ _ rfl (ho.out.alloc _) ⟨wr.heap.size,0,none⟩ 1 1 [.int .u64 (((y:Int)+(p:Int)) % 4294967296)] rfl rfl ?c1 ?c2 ?c3 ?c4 ?c5 ?_)
     |go_in)
    case c1=>exact cell_one_new _ _ _
    case c2=>intro u hu;simp at hu;subst hu;rfl
    case c3=>unfold maxLen;omega
    case c4=>omega
    case c5=>simp;omega
    intro v' w1 hown' hgrow _;have HO1:=hid hown';have HF1:=hid ((hF.out.alloc (.cells #[.int .u64 (((y:Int)+(p:Int)) % 4294967296)] 27)).grown hgrow (fun j hj=>.inr (ho.out.lt j hj).1));clear hown' hgrow;go_wp2;go_roundw
    case rel=>
     refine⟨k+1,os++[(y+p+0) % 4294967296],(y+p+0)/4294967296,by omega,by simp[hos],hlo.append (Limbs.one (by omega)),by omega,HS,by rw[hd1.out],by go_num,hid ?_,HF1⟩;have:=HO1.out;rw[hd2.out]at this;rw[us_appendB];exact this
    case measure=>simp[intOf];omega
  ·by_cases h2:k<ys.length
   ·
    have ex:xs[k]?.getD 0=0:=by rw[List.getElem?_eq_none (by omega)];rfl
    obtain⟨gb,rfl,hcy⟩:=big_cell (HB.out.fr hF.out) k h2;have hyk:ys[k]<4294967296:=HB.out.2 _ (List.getElem_mem h2);have ey:ys[k]?.getD 0=ys[k]:=by rw[List.getElem?_eq_getElem h2];rfl
    rw[ex,ey]at hS;have HS:=hid hS;clear hS hE ex ey;generalize ys[k]=q at*;have hd1:=hid (show((y:Int)+(q:Int))/4294967296=(((y+0+q)/4294967296:Nat):Int) by omega);have hd2:=hid (show((y:Int)+(q:Int)) % 4294967296=(((y+0+q) % 4294967296:Nat):Int) by omega)
    go_wp2_with (first
     |(at_builtin;refine wpList_append_own _ rfl _ _ 226 rfl w.heap.size 27 i0 (.int .u64 0) 1 8 Tryz.underlying226 hi hz0 hz1 hz2 rfl (by decide) _ _ _ rfl (ho.out.alloc _) ⟨wr.heap.size,0,none⟩ 1 1 [.int .u64 (((y:Int)+(q:Int)) % 4294967296)] rfl rfl ?c1 ?c2 ?c3 ?c4 ?c5 ?_)
     |go_in)
    case c1=>exact cell_one_new _ _ _
    case c2=>intro u hu;simp at hu;subst hu;rfl
    case c3=>unfold maxLen;omega
    case c4=>omega
    case c5=>simp;omega
    intro v' w1 hown' hgrow _;have HO1:=hid hown';have HF1:=hid ((hF.out.alloc (.cells #[.int .u64 (((y:Int)+(q:Int)) % 4294967296)] 27)).grown hgrow (fun j hj=>.inr (ho.out.lt j hj).1));clear hown' hgrow;go_wp2;go_roundw
    case rel=>
     refine⟨k+1,os++[(y+0+q) % 4294967296],(y+0+q)/4294967296,by omega,by simp[hos],hlo.append (Limbs.one (by omega)),by omega,HS,by rw[hd1.out],by go_num,hid ?_,HF1⟩;have:=HO1.out;rw[hd2.out]at this;rw[us_appendB];exact this
    case measure=>simp[intOf];omega
   ·have ex:xs.take k=xs:=List.take_of_length_le (by omega)
    have ey:ys.take k=ys:=List.take_of_length_le (by omega);have HS:=hid hE.out;rw[ex,ey]at HS;clear hS hE ex ey
    go_wp2_with (first
     |(at_builtin;refine wpList_append_own _ rfl _ _ 226 rfl w.heap.size 27 i0 (.int .u64 0) 1 8 Tryz.underlying226 hi hz0 hz1 hz2 rfl (by decide) _ _ _ rfl (ho.out.alloc _) ⟨wr.heap.size,0,none⟩ 1 1 [.int .u64 (y:Int)] rfl rfl ?c1 ?c2 ?c3 ?c4 ?c5 ?_)
     |go_in)
    case c1=>exact cell_one_new _ _ _
    case c2=>intro u hu;simp at hu;subst hu;rfl
    case c3=>unfold maxLen;omega
    case c4=>omega
    case c5=>simp;omega
    intro v' w1 hown' hgrow _;have HNIL:=hid (show v'≠.slice none 0 0 from by obtain⟨g',cap',rfl⟩:=row_succ hown';simp);have HO1:=hid hown';have HF1:=hid ((hF.out.alloc (.cells #[.int .u64 (y:Int)] 27)).grown hgrow (fun j hj=>.inr (ho.out.lt j hj).1));clear hown' hgrow;go_wp2;go_ret;refine⟨_,os++[y],rfl,HNIL.out,⟨?_,hlo.append (Limbs.one (by omega))⟩,?_,by simp;omega,HF1.out⟩
    ·rw[us_appendB,List.length_append,hos];exact ownsRow_base HO1.out
    ·rw[val_snoc,hos];exact HS.out
def bcmp (a b:Nat):Int:=if a<b then-1 else if a=b then 0 else 1
def bpad (xs:List Nat) (n:Nat):List Nat:=xs++List.replicate n 0
theorem bpad_len (xs:List Nat) (n:Nat):(bpad xs n).length=xs.length+n:=by simp[bpad]
theorem bval_zeros (n:Nat):val (List.replicate n 0)=0:=by
 induction n with
 |zero=>rfl
 |succ n ih=>rw[List.replicate_succ,val,ih]
theorem bpad_val (xs:List Nat) (n:Nat):val (bpad xs n)=val xs:=by rw[bpad,val_append,bval_zeros];omega
theorem bpad_limbs {xs:List Nat} (h:Limbs xs) (n:Nat):Limbs (bpad xs n):=by
 intro x hx;rw[bpad,List.mem_append]at hx;rcases hx with hx|hx
 ·exact h x hx
 ·rw[List.mem_replicate]at hx;omega
theorem bpad_get (xs:List Nat) (n j:Nat) (h:j<(bpad xs n).length):(bpad xs n)[j]=xs[j]?.getD 0:=by
 rcases Nat.lt_or_ge j xs.length with h1|h1
 ·rw[List.getElem?_eq_getElem h1]
  simp only[bpad];rw[List.getElem_append_left h1];rfl
 ·rw[List.getElem?_eq_none h1]
  simp only[bpad];rw[List.getElem_append_right h1];simp
theorem against_lt {xs ys:List Nat} {j:Nat} (hx:Limbs xs) (hj:j<xs.length+ys.length) (h:(bpad xs ys.length).drop (j+1)=(bpad ys xs.length).drop (j+1)) (hlt:xs[j]?.getD 0<ys[j]?.getD 0):val xs<val ys:=by
 rw[←bpad_val xs ys.length,←bpad_val ys xs.length];exact lt_of_word _ _ (bpad_limbs hx _) (by rw[bpad_len,bpad_len];omega) j (by rw[bpad_len];omega) h (by rw[bpad_get,bpad_get];exact hlt)
theorem against_eq {xs ys:List Nat} (h:(bpad xs ys.length).drop 0=(bpad ys xs.length).drop 0):val xs=val ys:=by
 rw[←bpad_val xs ys.length,←bpad_val ys xs.length];rw[List.drop_zero,List.drop_zero]at h;rw[h]
theorem against_next {xs ys:List Nat} {j:Nat} (hj:j<xs.length+ys.length) (h:(bpad xs ys.length).drop (j+1)=(bpad ys xs.length).drop (j+1)) (he:xs[j]?.getD 0=ys[j]?.getD 0):(bpad xs ys.length).drop j=(bpad ys xs.length).drop j:=by
 rw[List.drop_eq_getElem_cons (i:=j) (l:=bpad xs ys.length) (by rw[bpad_len];omega),List.drop_eq_getElem_cons (i:=j) (l:=bpad ys xs.length) (by rw[bpad_len];omega),h,bpad_get,bpad_get,he]
theorem bagainst_any (v u:Value) (xs ys:List Nat) (w:World) (hl1:xs.length≤1000000000) (hl2:ys.length≤1000000000) (hA:BigAt w v xs) (hB:BigAt w u ys):
 Calls Tryz.prog 221 #[v,u] w fun e w'=>e=.returned (.int .i64 (bcmp (val xs) (val ys)))∧w'=w:=by
 obtain⟨a,ca,rfl⟩:=big_shape hA;obtain⟨b,cb,rfl⟩:=big_shape hB;have HA:=hid hA;have HB:=hid hB;clear hA hB;go_enter Tryz.func221,Tryz.ntmps221;go_wp2
 go_loop [5] (fun i=>∃j:Nat,j≤xs.length+ys.length∧i=.int .i64 ((j:Int)-1)∧Hid ((bpad xs ys.length).drop j=(bpad ys xs.length).drop j)) (fun i=>(intOf i+1).toNat)
 case atStart=>exact⟨xs.length+ys.length,Nat.le_refl _,by go_num,hid (by rw[List.drop_of_length_le (l:=bpad xs ys.length) (by rw[bpad_len];omega),List.drop_of_length_le (l:=bpad ys xs.length) (by rw[bpad_len];omega)])⟩
 case round=>
  obtain⟨j,hj,rfl,hE⟩:=hrel;cases j with
  |zero=>
   have HR:=hid (show bcmp (val xs) (val ys)=0 from by rw[bcmp,if_neg (by rw[against_eq hE.out];omega),if_pos (against_eq hE.out)]);go_wp2;go_ret;exact⟨by rw[HR.out];rfl,rfl⟩
  |succ j=>
   by_cases h1:j<xs.length
   ·by_cases h2:j<ys.length
    ·
     obtain⟨ga,rfl,hcx⟩:=big_cell HA.out j h1;have ex:xs[j]?.getD 0=xs[j]:=by rw[List.getElem?_eq_getElem h1];rfl
     have hxk:xs[j]<4294967296:=HA.out.2 _ (List.getElem_mem h1);obtain⟨gb,rfl,hcy⟩:=big_cell HB.out j h2;have ey:ys[j]?.getD 0=ys[j]:=by rw[List.getElem?_eq_getElem h2];rfl
     have hyk:ys[j]<4294967296:=HB.out.2 _ (List.getElem_mem h2);have H0:=hid hE.out;have HX:=hid ex;have HY:=hid ey;clear hE ex ey;generalize xs[j]=p at*;generalize ys[j]=q at*;by_cases hlt:p<q
     ·have HR:=hid (show bcmp (val xs) (val ys)= -1 from if_pos (against_lt HA.out.2 (by omega) H0.out (by rw[HX.out,HY.out];exact hlt)))
      go_wp2;go_ret;exact⟨by rw[HR.out];rfl,rfl⟩
     by_cases hgt:q<p
     ·have hgx:=against_lt HB.out.2 (by omega) (xs:=ys) (ys:=xs) H0.out.symm (by rw[HX.out,HY.out];exact hgt)
      have HR:=hid (show bcmp (val xs) (val ys)=1 from by rw[bcmp,if_neg (by omega),if_neg (by omega)]);clear hgx;go_wp2;go_ret;exact⟨by rw[HR.out];rfl,rfl⟩
     have HN:=hid (against_next (by omega) H0.out (by rw[HX.out,HY.out];omega));obtain rfl:p=q:=by omega
     clear hlt hgt;go_wp2
     go_round
     case rel=>exact⟨j,by omega,by go_num,HN⟩
     case measure=>simp[intOf]
    ·
     obtain⟨ga,rfl,hcx⟩:=big_cell HA.out j h1;have ex:xs[j]?.getD 0=xs[j]:=by rw[List.getElem?_eq_getElem h1];rfl
     have hxk:xs[j]<4294967296:=HA.out.2 _ (List.getElem_mem h1);have ey:ys[j]?.getD 0=0:=by rw[List.getElem?_eq_none (by omega)];rfl
     have H0:=hid hE.out;have HX:=hid ex;have HY:=hid ey;clear hE ex ey;generalize xs[j]=p at*;by_cases hgt:0<p
     ·have hgx:=against_lt HB.out.2 (by omega) (xs:=ys) (ys:=xs) H0.out.symm (by rw[HX.out,HY.out];exact hgt)
      have HR:=hid (show bcmp (val xs) (val ys)=1 from by rw[bcmp,if_neg (by omega),if_neg (by omega)]);clear hgx;go_wp2;go_ret;exact⟨by rw[HR.out];rfl,rfl⟩
     have HN:=hid (against_next (by omega) H0.out (by rw[HX.out,HY.out];omega));obtain rfl:p=0:=by omega
     clear hgt;go_wp2
     go_round
     case rel=>exact⟨j,by omega,by go_num,HN⟩
     case measure=>simp[intOf]
   ·by_cases h2:j<ys.length
    ·
     have ex:xs[j]?.getD 0=0:=by rw[List.getElem?_eq_none (by omega)];rfl
     obtain⟨gb,rfl,hcy⟩:=big_cell HB.out j h2;have ey:ys[j]?.getD 0=ys[j]:=by rw[List.getElem?_eq_getElem h2];rfl
     have hyk:ys[j]<4294967296:=HB.out.2 _ (List.getElem_mem h2);have H0:=hid hE.out;have HX:=hid ex;have HY:=hid ey;clear hE ex ey;generalize ys[j]=q at*;by_cases hlt:0<q
     ·have HR:=hid (show bcmp (val xs) (val ys)= -1 from if_pos (against_lt HA.out.2 (by omega) H0.out (by rw[HX.out,HY.out];exact hlt)))
      go_wp2;go_ret;exact⟨by rw[HR.out];rfl,rfl⟩
     have HN:=hid (against_next (by omega) H0.out (by rw[HX.out,HY.out];omega));obtain rfl:q=0:=by omega
     clear hlt;go_wp2
     go_round
     case rel=>exact⟨j,by omega,by go_num,HN⟩
     case measure=>simp[intOf]
    ·
     have ex:xs[j]?.getD 0=0:=by rw[List.getElem?_eq_none (by omega)];rfl
     have ey:ys[j]?.getD 0=0:=by rw[List.getElem?_eq_none (by omega)];rfl
     have H0:=hid hE.out;have HX:=hid ex;have HY:=hid ey;clear hE ex ey;have HN:=hid (against_next (by omega) H0.out (by rw[HX.out,HY.out]));go_wp2
     go_round
     case rel=>exact⟨j,by omega,by go_num,HN⟩
     case measure=>simp[intOf]
theorem us_oneB {ws:List Nat}:∀u∈usB ws,u.oneCell'=true:=by intro u hu;simp[usB]at hu;obtain⟨a,_,rfl⟩:=hu;rfl
theorem us_zeros (n:Nat):usB (List.replicate n 0)=List.replicate n (.int .u64 0):=by simp[usB]
theorem big_some {w:World} {v:Value} {ws:List Nat} (h:BigAt w v ws) (hn:v≠.slice none 0 0):∃g cap,v=.slice (some ⟨g,0,none⟩) ws.length cap:=by
 rcases h.1.2 with⟨h1,_⟩|⟨g,cap,cur,hv,_⟩
 ·exact absurd h1 hn
 ·exact⟨g,cap,hv⟩
theorem row_one (w:World) (x:Value) (e:Nat):(w.alloc (.cells #[x] e)).ownsRow w.heap.size e 1 (.slice (some ⟨w.heap.size,0,none⟩) 1 1) 1 [x]:=
 ⟨rfl,.inr ⟨_,_,_,rfl,Nat.le_refl _,heap_alloc_new _ _,by omega,by unfold maxLen;omega,rfl,rfl⟩⟩
theorem ownsRow_other {w0 w w':World} {e size:Nat} {v:Value} {n:Nat} {xs:List Value} (h:w.ownsRow 0 e size v n xs) (h0:w0.ownsRow 0 e size v n xs) (hF:Fr (fun i=>i=w0.heap.size) w w'):w'.ownsRow 0 e size v n xs:=by
 obtain⟨h1,h2⟩:=h;refine⟨h1,?_⟩;rcases h2 with h2|⟨g,cap,cur,hv,hg,hh,hr⟩
 ·exact .inl h2
 ·have hlt:g<w0.heap.size:=(h0.lt g (by rw[hv];rfl)).2
  exact .inr ⟨g,cap,cur,hv,hg,(hF.block g (lt_of_block hh) (by omega)).trans hh,hr⟩
theorem bby_any (v:Value) (ws:List Nat) (n:Nat) (w:World) (hl:ws.length≤100000000) (hn:n<18446744073709551616) (hB:BigAt w v ws):
 Calls Tryz.prog 220 #[v,.int .u64 (n:Int)] w (BigPost w (val ws*n) (ws.length+3)):=by
 have h1:(n:Int) % 4294967296=((n % 4294967296:Nat):Int):=by omega
 have h2:(n:Int)/4294967296=((n/4294967296:Nat):Int):=by omega
 have k1:n % 4294967296<4294967296:=by omega
 have k2:n/4294967296<4294967296:=by omega
 have hval:=hid (show val ws*n=(n % 4294967296*val ws+0)+4294967296*(n/4294967296*val ws+0)from by
  have e:n=n % 4294967296+4294967296*(n/4294967296):=by omega
  generalize n % 4294967296=a at*;generalize n/4294967296=b at*
  rw[e,Nat.mul_add,Nat.add_zero,Nat.add_zero,Nat.mul_comm (val ws) a,Nat.mul_comm (val ws),Nat.mul_assoc])
 have H1:=hid h1;have H2:=hid h2;obtain⟨i0,hi,hz0,hz1,hz2⟩:=info_parts Tryz.info27;generalize n % 4294967296=p at*;generalize n/4294967296=q at*;clear h1 h2 hn;go_enter Tryz.func220,Tryz.ntmps220
 go_wp2_with fail
 rw[H1.out];refine(btimes_any v ws p 0 _ (by omega) k1 (by omega) hB).mono ?_;rintro e w1 ⟨v1,ws1,rfl,b1,b2,b3,b4⟩;have B1:=hid b1;have B2:=hid b2;have B4:=hid b4;have HB:=hid hB;clear b1 b2 b4 hB
 go_wp2_with fail
 rw[H2.out];refine(btimes_s v ws q 0 _ (by omega) k2 (by omega) (HB.out.fr (B4.out.alloc _))).mono ?_;rintro e w2 ⟨v2,ws2,rfl,n2,c2,c3,c4,c5⟩;obtain⟨g2,cap2,rfl⟩:=big_some c2 n2;have hz:w2.ownsRow w1.heap.size 27 1 (.slice (some ⟨w1.heap.size,0,none⟩) 1 1) 1 (usB [0]):=ownsRow_fr (row_one w1 (.int .u64 0) 27) c5;have HZ:=hid hz;have C2:=hid c2;have C3:=hid c3;have hb2:=c5.size;simp only[World.size_alloc]at hb2;have HF2:=hid ((B4.out.alloc (.cells #[.int .u64 0] 27)).trans c5);have B1':=hid (B1.out.fr ((Fr.refl (fun _=>False) w1).alloc (.cells #[.int .u64 0] 27) |>.trans c5));clear c2 c3 c5 hz n2
 go_wp2_with (first
  |(at_builtin;refine wpList_append_own _ rfl _ _ 226 rfl w1.heap.size 27 i0 (.int .u64 0) 1 8 Tryz.underlying226 hi hz0 hz1 hz2 rfl (by decide) _ _ _ rfl HZ.out ⟨g2,0,none⟩ ws2.length cap2 (usB ws2) rfl ?c0 ?c1 ?c2 ?c3 ?c4 ?c5 ?_)
  |go_in)
 case c0=>rw[us_lengthB];omega
 case c1=>exact C2.out.1.cells (g:=g2) rfl
 case c2=>exact us_oneB
 case c3=>unfold maxLen;omega
 case c4=>omega
 case c5=>omega
 intro v3 w3 hown' hgrow _
 have hB3:=hid (show BigAt w3 v3 (0::ws2)from⟨by rw[List.length_cons,Nat.add_comm];exact ownsRow_base hown',by
  intro x hx;rcases List.mem_cons.1 hx with rfl|hx
  ·omega
  ·exact C2.out.2 x hx⟩)
 have hFg:Fr (fun i=>i=w1.heap.size) w2 w3:=(Fr.refl _ w2).grown hgrow (fun k hk=>.inl (by simpa[Value.ownBlock]using hk.symm));have HF3:=hid (HF2.out.trans' hFg (fun i hi=>.inr (by rw[hi];exact B4.out.size)));have hB1:=hid (show BigAt w3 v1 ws1 from⟨ownsRow_other B1'.out.1 B1.out.1 hFg,B1'.out.2⟩);have HV3:=hid (show val (0::ws2)=4294967296*(q*val ws+0)from by rw[val,C3.out];omega);clear hown' hgrow hFg
 go_wp2_with fail
 refine(bplus_s _ _ ws1 (0::ws2) _ (by omega) (by simp;omega) hB1.out hB3.out).mono ?_;intro e w4 hp;obtain⟨v4,ws4,rfl,n4,d1,d2,d3,d4⟩:=hp;have D:=hid (And.intro d1 (And.intro d2 (And.intro d3 d4)));clear d1 d2 d3 d4 n4;go_wp2;go_ret;obtain⟨d1,d2,d3,d4⟩:=D.out;refine⟨_,ws4,rfl,d1,?_,?_,HF3.out.trans d4⟩
 ·rw[d2,B2.out,HV3.out,hval.out]
 ·simp only[List.length_cons]at d3;omega
theorem row_made (w:World) (n:Nat) (hn:n≤100000):(w.alloc (.cells (madeCells #[Value.int .u64 0] n) 27)).ownsRow w.heap.size 27 1 (.slice (some ⟨w.heap.size,0,none⟩) n n) n (usB (List.replicate n 0)):=by
 have:=World.ownsRow_lit w (e:=27) (size:=1) (base:=w.heap.size) (madeCells #[Value.int .u64 0] n) n (Nat.le_refl _) (by unfold maxLen;omega) (by rw[size_madeCells];omega);rw[toList_madeCells_one]at this;rw[us_zeros];exact this
theorem two_split (n:Nat):2^n=4294967296^(n/32)*2^(n % 32):=by
 rw[show(4294967296:Nat)=2^32 from rfl,←Nat.pow_mul,←Nat.pow_add,Nat.div_add_mod]
theorem btwos_any (v:Value) (ws:List Nat) (n:Nat) (w:World) (hl:ws.length≤100000000) (hn:n≤100000) (hB:BigAt w v ws):
 Calls Tryz.prog 222 #[v,.int .i64 (n:Int)] w (BigPost w (val ws*2^n) (ws.length+n/32+1)):=by
 obtain⟨i0,hi,hz0,hz1,hz2⟩:=info_parts Tryz.info27;have hmk:=fun wx=>run_make (P:=Tryz.prog) wx 226 27 i0 (.int .u64 0) Tryz.underlying226 hi hz0 .i64 .i64 ((n:Int)/32) ((n:Int)/32) (by omega) (Int.le_refl _) (by rw[hz2];omega) (by omega)
 rw[hz1]at hmk;have hW:((n:Int)/32).toNat=n/32:=by omega
 have hpart:=part_pow n;go_enter Tryz.func222,Tryz.ntmps222
 go_wp2_with fail
 have hpw:IntKind.u64.wrap ((2:Int)^(n % 32))=((2^(n % 32):Nat):Int):=by
  have h:=part_lt n;have e:((2^(n % 32):Nat):Int)=(2:Int)^(n % 32):=by rw[Int.natCast_pow];rfl
  rw[←e,IntWalk.u64_in _ (by omega)]
 rw[hpw];have HL:=hid (part_lt n);have hst:=row_made w (n/32) (by omega);refine(btimes_s v ws (2^(n % 32)) 0 _ (by omega) HL.out (by omega) (hB.fr ((Fr.refl _ _).alloc _))).mono ?_;rintro e w2 ⟨v2,ws2,rfl,n2,c2,c3,c4,c5⟩;obtain⟨g2,cap2,rfl⟩:=big_some c2 n2;have HZ:=hid (ownsRow_fr hst c5);have C2:=hid c2;have C3:=hid c3;have hb2:=c5.size;simp only[World.size_alloc]at hb2;have HF2:=hid (((Fr.refl (fun _=>False) w).alloc (.cells (madeCells #[.int .u64 0] (n/32)) 27)).trans c5);clear c2 c3 c5 hst n2 hmk hpw hpart hB
 go_wp2_with (first
  |(at_builtin;refine wpList_append_own _ rfl _ _ 226 rfl w.heap.size 27 i0 (.int .u64 0) 1 8 Tryz.underlying226 hi hz0 hz1 hz2 rfl (by decide) _ _ _ rfl HZ.out ⟨g2,0,none⟩ ws2.length cap2 (usB ws2) rfl ?c0 ?c1 ?c2 ?c3 ?c4 ?c5 ?_)
  |go_in)
 case c0=>rw[us_lengthB];omega
 case c1=>exact C2.out.1.cells (g:=g2) rfl
 case c2=>exact us_oneB
 case c3=>unfold maxLen;omega
 case c4=>omega
 case c5=>omega
 intro v3 w3 hown' hgrow _
 have hB3:=hid (show BigAt w3 v3 (List.replicate (n/32) 0++ws2)from⟨by
  rw[us_appendB,List.length_append,List.length_replicate]
  exact ownsRow_base hown',(Limbs.zeros _).append C2.out.2⟩)
 have HF3:=hid (HF2.out.trans' ((Fr.refl (fun i=>i=w.heap.size) w2).grown hgrow (fun k hk=>.inl (by simpa[Value.ownBlock]using hk.symm))) (fun i hi=>.inr (by omega)));clear hown' hgrow;go_wp2;go_ret;refine⟨_,_,rfl,hB3.out,?_,by simp;omega,HF3.out⟩;rw[val_zeros,C3.out,two_split n,Nat.add_zero,←Nat.mul_assoc,Nat.mul_comm]
theorem parts_any (n E f:Nat) (w:World) (hn:n=E*4503599627370496+f) (hf:f<4503599627370496) (hE:E≤2047):
 Calls Tryz.prog 205 #[.int .u64 (n:Int)] w fun e w'=>e=.returned (.tuple #[.int .u64 ((if E=0 then f else f+4503599627370496:Nat):Int),.int .i64 (if E=0 then-1074 else(E:Int)-1075)])∧w'=w:=by
 have h1:(n:Int)/4503599627370496=(E:Int):=by omega
 have h2:(n:Int) % 4503599627370496=(f:Int):=by omega
 by_cases h0:E=0
 ·have hE0:(E:Int)=0:=by omega
  rw[if_pos h0,if_pos h0];clear hn h0;generalize (n:Int)=N at*;go_enter Tryz.func205,Tryz.ntmps205;go_wp2;go_ret2;refine⟨?_,rfl⟩;rw[←h2];rfl
 ·have hE0:((E:Int)==0)=false:=beq_eq_false_iff_ne.2 (by omega)
  rw[if_neg h0,if_neg h0];clear hn h0;generalize (n:Int)=N at*;go_enter Tryz.func205,Tryz.ntmps205;go_wp2;go_ret2;refine⟨?_,rfl⟩;rw[Int.natCast_add,←h2];rfl
theorem parts_man (n:Nat) (w:World) (hn:n<9223372036854775808):
 Calls Tryz.prog 205 #[.int .u64 (n:Int)] w fun e w'=>e=.returned (.tuple #[.int .u64 ((manE n).1:Int),.int .i64 ((manE n).2-1074:Int)])∧w'=w:=by
 refine(parts_any n (n/4503599627370496) (n % 4503599627370496) w (by omega) (by omega) (by omega)).mono ?_;rintro e w' ⟨rfl,rfl⟩;refine⟨?_,rfl⟩;unfold manE;by_cases h:n/4503599627370496=0
 ·rw[if_pos h,if_pos h,if_pos h]
  simp only;rw[show n % 4503599627370496=n by omega];rfl
 ·rw[if_neg h,if_neg h,if_neg h]
  simp only;rw[Nat.add_comm (n % 4503599627370496),show((n/4503599627370496:Nat):Int)-1075=((n/4503599627370496-1:Nat):Int)-1074 by omega]
theorem lt_of_cell {w:World} {a:Addr} {v:Value} (h:w.cell? a=some v):a.block<w.heap.size:=by
 unfold World.cell? at h;split at h
 ·rename_i hh;exact lt_of_block hh
 ·cases h
def FracAt (w:World) (v:Value) (A B L:Nat):Prop:=∃va vb xs ys,v=.agg #[va,vb]∧BigAt w va xs∧BigAt w vb ys∧val xs=A∧val ys=B∧xs.length≤L∧ys.length≤L
theorem FracAt.fr {w w':World} {v:Value} {A B L:Nat} (h:FracAt w v A B L) (hF:Fr (fun _=>False) w w'):FracAt w' v A B L:=by
 obtain⟨va,vb,xs,ys,h1,h2,h3,h4⟩:=h;exact⟨va,vb,xs,ys,h1,h2.fr hF,h3.fr hF,h4⟩
theorem btwos_int (v:Value) (ws:List Nat) (e:Int) (n:Nat) (w w0:World) (he:e=(n:Int)) (hw:w0.heap=w.heap) (hl:ws.length≤100000000) (hn:n≤100000) (hB:BigAt w0 v ws):
 Calls Tryz.prog 222 #[v,.int .i64 e] w (BigPost w (val ws*2^n) (ws.length+n/32+1)):=by
 subst he;exact btwos_any v ws n w hl hn ⟨by have:=hB.1;unfold World.ownsRow at this ⊢;rw[←hw];exact this,hB.2⟩
theorem fagainst_any (v:Value) (A B L n:Nat) (e:Int) (w:World) (hL:L≤10000000) (hn:n<18446744073709551616) (h1: -5000≤e) (h2:e≤5000) (hf:FracAt w v A B L):
 Calls Tryz.prog 206 #[v,.int .u64 (n:Int),.int .i64 e] w fun r w'=>r=.returned (.int .i64 (bcmp (A*2^(-e).toNat) (B*n*2^e.toNat)))∧Fr (fun _=>False) w w':=by
 obtain⟨va,vb,xs,ys,rfl,ha,hb,hA,hB,hl1,hl2⟩:=hf;have HN:=hid hn;obtain⟨aa,ca,hva⟩:=big_shape ha;obtain⟨ab,cb,hvb⟩:=big_shape hb;have HA:=hid ha;have HB:=hid hb;clear ha hb hn;subst hva hvb;by_cases he:0≤e
 ·have hr:=hid (show bcmp (A*2^(-e).toNat) (B*n*2^e.toNat)=bcmp (val xs) (val ys*n*2^e.toNat)from by rw[show(-e).toNat=0 by omega,Nat.pow_zero,Nat.mul_one,hA,hB])
  have he2:=hid (show e=((e.toNat:Nat):Int) by omega);have hk:e.toNat≤5000:=by omega
  clear hA hB;go_enter Tryz.func206,Tryz.ntmps206
  go_wp2_with fail
  refine(bby_any _ ys n _ (by omega) HN.out (HB.out.fr ((Fr.refl _ _).alloc _))).mono ?_;rintro r w1 ⟨v1,ws1,rfl,b1,b2,b3,b4⟩;have hc0:=(b4.cell (p:=⟨w.heap.size,0,none⟩) (by simp) id).trans (cell_alloc_at _ _ _ _);simp only[List.getElem?_toArray,List.getElem?_cons_zero]at hc0;have B1:=hid b1;have B2:=hid b2;have HF1:=hid (((Fr.refl (fun _=>False) w).alloc (.cells #[.slice aa xs.length ca,.slice ab ys.length cb] 228)).trans b4);clear b1 b2 b4;have hwB:w.heap.size<w1.heap.size:=by have:=HF1.out.size;have:=lt_of_cell hc0;exact this
  go_wp2_with fail
  have hcall:=hid (show Calls Tryz.prog 222 #[v1,.int .i64 e] w1.drew (BigPost w1.drew (val ws1*2^e.toNat) (ws1.length+e.toNat/32+1))from btwos_int _ ws1 e e.toNat _ w1 he2.out rfl (by omega) (by omega) B1.out);have HLEN:=hid (show ws1.length+e.toNat/32+1≤1000000000 by omega);have HAG:=hid (fun (v2:Value) (ws2:List Nat) (w2:World) (h1:ws2.length≤1000000000) (h2:BigAt w2 v2 ws2) (h3:Fr (fun _=>False) w w2)=>bagainst_any (.slice aa xs.length ca) v2 xs ws2 w2 (by omega) h1 (HA.out.fr h3) h2);have HWB:=hid hwB;have HC0:=hid hc0
  go_region_with (first
   |(go_at_call 222;refine Calls.mono hcall.out ?_;rintro r w2 ⟨v2,ws2,rfl,c1,c2,c3,c4⟩;have C1:=hid c1;have C2:=hid c2;have HF2:=hid (HF1.out.drew.trans c4);have hl3:=hid (Nat.le_trans c3 HLEN.out);have hc2:=(c4.cell (p:=⟨w.heap.size,0,none⟩) HWB.out id).trans HC0.out;clear c1 c2 c4)
   |(go_at_call 221;refine Calls.mono (HAG.out _ _ _ hl3.out C1.out HF2.out) ?_;rintro r w3 ⟨rfl,rfl⟩))
  all_goals
   go_wp2;go_ret;refine⟨?_,HF2.out⟩;rw[hr.out,←B2.out,←C2.out];rfl
 ·have hr:=hid (show bcmp (A*2^(-e).toNat) (B*n*2^e.toNat)=bcmp (val xs*2^(-e).toNat) (val ys*n)from by rw[show e.toNat=0 by omega,Nat.pow_zero,Nat.mul_one,hA,hB])
  have he2:=hid (show-e=(((-e).toNat:Nat):Int) by omega);have hk:(-e).toNat≤5000:=by omega
  clear hA hB;go_enter Tryz.func206,Tryz.ntmps206
  go_wp2_with fail
  refine(bby_any _ ys n _ (by omega) HN.out (HB.out.fr ((Fr.refl _ _).alloc _))).mono ?_;rintro r w1 ⟨v1,ws1,rfl,b1,b2,b3,b4⟩;have hc0:=(b4.cell (p:=⟨w.heap.size,0,none⟩) (by simp) id).trans (cell_alloc_at _ _ _ _);simp only[List.getElem?_toArray,List.getElem?_cons_zero]at hc0;have B1:=hid b1;have B2:=hid b2;have HF1:=hid (((Fr.refl (fun _=>False) w).alloc (.cells #[.slice aa xs.length ca,.slice ab ys.length cb] 228)).trans b4);clear b1 b2 b4
  go_wp2_with fail
  rw[he2.out];refine(btwos_any _ xs (-e).toNat _ (by omega) (by omega) (HA.out.fr HF1.out)).mono ?_;rintro r w2 ⟨v2,ws2,rfl,c1,c2,c3,c4⟩;have hl3:ws2.length≤1000000000:=by omega
  have C1:=hid c1;have C2:=hid c2;have B1':=hid (B1.out.fr c4);have HF2:=hid (HF1.out.trans c4);clear c1 c2 c4
  go_wp2_with fail
  refine(bagainst_any _ _ ws2 ws1 _ hl3 (by omega) C1.out B1'.out).mono ?_;rintro r w3 ⟨rfl,rfl⟩;go_wp2;go_ret;refine⟨?_,HF2.out⟩;rw[hr.out,←B2.out,←C2.out];rfl
theorem BigAt.set3 {w:World} {v:Value} {ws:List Nat} {bF bR i:Nat} {x0 x1 y0 y1 a b c:Value} (h:BigAt w v ws) (hF:w.heap[bF]? =some (.cells #[x0,x1] 228 (0,0))) (hR:w.heap[bR]? =some (.cells #[y0,y1] 228 (0,0))):
 BigAt (((w.setCell ⟨bF,i,none⟩ a).setCell ⟨bR,0,none⟩ b).setCell ⟨bR,1,none⟩ c) v ws:=by
 obtain⟨⟨h1,h2⟩,h3⟩:=h;refine⟨⟨h1,?_⟩,h3⟩;rcases h2 with h2|⟨g,cap,cur,hv,hg,hh,hr⟩
 ·exact .inl h2
 ·have n1:g≠bF:=by rintro rfl;rw[hh]at hF;simp at hF
  have n2:g≠bR:=by rintro rfl;rw[hh]at hR;simp at hR
  exact .inr ⟨g,cap,cur,hv,hg,((Below.heap_setCell _ _ _ _ (by simpa using n2)).trans ((Below.heap_setCell _ _ _ _ (by simpa using n2)).trans (Below.heap_setCell _ _ _ _ (by simpa using n1)))).trans hh,hr⟩
theorem btens_int (v:Value) (ws:List Nat) (e:Int) (n:Nat) (w:World) (he:e=(n:Int)) (hl:ws.length+n≤100000000) (hB:BigAt w v ws):
 Calls Tryz.prog 208 #[v,.int .i64 e] w (BigPost w (val ws*p10 n) (ws.length+n)):=by
 subst he;exact btens_any v ws n w hl hB
theorem of_lim (mi:Bool) (l:List UInt8) (X:Int) (L:Nat) (w:World) (hl:l.length≤4000000) (hD:AllD l) (h1: -4000000≤X) (h2:X≤4000000) (hL:(l.length:Int)+X+1≤L∧(l.length:Int)+1≤L∧1-X≤L):
 Calls Tryz.prog 178 #[.agg #[.bool mi,.string (ofL l),.int .i64 X]] w fun e w'=>∃v,e=.returned v∧FracAt w' v (num (dv l)*p10 X.toNat) (p10 (-X).toNat) L∧Fr (fun _=>False) w w':=by
 have HL:=hid hL;clear hL;by_cases hX:0<X
 ·have hx:=hid (show X=((X.toNat:Nat):Int) by omega)
  go_enter Tryz.func178,Tryz.ntmps178
  go_wp2_with fail
  refine(bwhole_any l _ (by omega) hD).mono ?_;rintro r w1 ⟨v1,ws1,rfl,b1,b2,b3,b4⟩;obtain⟨a1,ca1,rfl⟩:=big_shape b1;have hT1:w1.heap[w.heap.size]? =some (.cells #[.bool mi,.string (ofL l),.int .i64 X] 194 (0,0)):=(b4.block w.heap.size (by simp;omega) id).trans ((Below.heap_alloc _ _ _ (by simp)).trans (heap_alloc_new w _));have hcX:w1.cell? ⟨w.heap.size,2,none⟩=some (.int .i64 X):=by simp[World.cell?,hT1]
  have hcX2:∀o1 o2,((w1.alloc o1).alloc o2).cell? ⟨w.heap.size,2,none⟩=some (.int .i64 X):=by
   intro o1 o2;have hl:=lt_of_block hT1;rw[World.cell?_of_block (w:=w1.alloc o1) (Below.heap_alloc _ _ _ (by simp;omega)),World.cell?_of_block (w:=w1) (Below.heap_alloc _ _ _ hl)];exact hcX
  clear hT1;have hR1:w1.heap[w.heap.size+1]? =some (.cells #[.slice none 0 0,.slice none 0 0] 228 (0,0)):=(b4.block (w.heap.size+1) (by simp) id).trans (by have:=heap_alloc_new (w.alloc (.cells #[.bool mi,.string (ofL l),.int .i64 X] 194)) (.cells #[.slice none 0 0,.slice none 0 0] 228);rwa[World.size_alloc]at this);have hws:w.heap.size+2≤w1.heap.size:=by have:=b4.size;simp at this;omega
  have HR1:=hid hR1;have B1:=hid b1;have B2:=hid b2;have B4:=hid b4;clear b1 b2 b4 hR1
  go_wp2_with fail
  have hZ1:BigAt ((w1.alloc (.cells #[.int .u64 1] 27)).alloc (.cells #[.slice a1 ws1.length ca1,.slice (some ⟨w1.heap.size,0,none⟩) 1 1] 228)) (.slice (some ⟨w1.heap.size,0,none⟩) 1 1) [1]:=
   BigAt.fr ⟨ownsRow_base (row_one w1 (.int .u64 1) 27),Limbs.one (by omega)⟩ ((Fr.refl _ _).alloc _)
  have hA1:=B1.out.fr (((Fr.refl (fun _=>False) w1).alloc (.cells #[.int .u64 1] 27)).alloc (.cells #[.slice a1 ws1.length ca1,.slice (some ⟨w1.heap.size,0,none⟩) 1 1] 228));have B1':=hid hA1;refine(btens_int _ ws1 X X.toNat _ hx.out (by omega) B1'.out).mono ?_;rintro r w2 ⟨v2,ws2,rfl,c1,c2,c3,c4⟩;obtain⟨a2,ca2,rfl⟩:=big_shape c1;have hbF:w2.heap[w1.heap.size+1]? =some (.cells #[.slice a1 ws1.length ca1,.slice (some ⟨w1.heap.size,0,none⟩) 1 1] 228 (0,0)):=(c4.block (w1.heap.size+1) (by simp) id).trans (by have:=heap_alloc_new (w1.alloc (.cells #[.int .u64 1] 27)) (.cells #[.slice a1 ws1.length ca1,.slice (some ⟨w1.heap.size,0,none⟩) 1 1] 228);rwa[World.size_alloc]at this);have hbR:w2.heap[w.heap.size+1]? =some (.cells #[.slice none 0 0,.slice none 0 0] 228 (0,0)):=(c4.block (w.heap.size+1) (by simp;omega) id).trans ((Below.heap_alloc _ _ _ (by simp;omega)).trans ((Below.heap_alloc _ _ _ (by omega)).trans HR1.out));have g0:=two_cell0 hbF;have g1:=two_cell1 hbF;have gf0:=two_free (j:=0) hbF;have gf1:=two_free (j:=1) hbF;have d0:=two_cell0 hbR;have d1:=two_cell1 hbR;have df0:=two_free (j:=0) hbR;have df1:=two_free (j:=1) hbR;have hne:w.heap.size+1≠w1.heap.size+1:=by omega
  have HBR:=hid hbR;have HBF:=hid hbF;have C1:=hid c1;have C2:=hid c2;have HZ:=hid (hZ1.fr c4);have HA:=hid (hA1.fr c4);have HF2:=hid ((((((Fr.refl (fun _=>False) w).alloc _).alloc _).trans B4.out).alloc _).alloc _ |>.trans c4);clear c1 c2 c4 hbF hbR hcX hcX2 hZ1 hA1 B1';go_wp2;have hfin:=two_set1 (u:=(.slice (some ⟨w1.heap.size,0,none⟩) 1 1)) (two_set0 (u:=(.slice a2 ws2.length ca2)) ((Below.heap_setCell (w2) ⟨w1.heap.size+1,0,none⟩ (.slice a2 ws2.length ca2) (w.heap.size+1) (by simpa using hne)).trans HBR.out));have e0:=two_cell0 hfin;have e1:=two_cell1 hfin;refine bodyPost_ret (v:=.agg #[.slice a2 ws2.length ca2,.slice (some ⟨w1.heap.size,0,none⟩) 1 1]) (by simp[results,Tryz.results178,go_sem,e0,e1]) rfl ?_
  have HF3:Fr (fun _=>False) w (((w2.setCell ⟨w1.heap.size+1,0,none⟩ (.slice a2 ws2.length ca2)).setCell ⟨w.heap.size+1,0,none⟩ (.slice a2 ws2.length ca2)).setCell ⟨w.heap.size+1,1,none⟩ (.slice (some ⟨w1.heap.size,0,none⟩) 1 1)):=
   ((HF2.out.setCell (.inr (by simp;omega)) _).setCell (.inr (by simp)) _).setCell (.inr (by simp)) _
  refine⟨_,rfl,⟨_,_,ws2,[1],rfl,C1.out.set3 HBF.out HBR.out,HZ.out.set3 HBF.out HBR.out,?_,?_,by have:=HL.out;omega,by have:=HL.out;simp;omega⟩,HF3⟩
  ·rw[C2.out,B2.out]
  ·rw[show(-X).toNat=0 by omega];rfl
 ·have hx:=hid (show-X=(((-X).toNat:Nat):Int) by omega)
  go_enter Tryz.func178,Tryz.ntmps178
  go_wp2_with fail
  refine(bwhole_any l _ (by omega) hD).mono ?_;rintro r w1 ⟨v1,ws1,rfl,b1,b2,b3,b4⟩;obtain⟨a1,ca1,rfl⟩:=big_shape b1;have hT1:w1.heap[w.heap.size]? =some (.cells #[.bool mi,.string (ofL l),.int .i64 X] 194 (0,0)):=(b4.block w.heap.size (by simp;omega) id).trans ((Below.heap_alloc _ _ _ (by simp)).trans (heap_alloc_new w _));have hcX:w1.cell? ⟨w.heap.size,2,none⟩=some (.int .i64 X):=by simp[World.cell?,hT1]
  have hcX2:∀o1 o2,((w1.alloc o1).alloc o2).cell? ⟨w.heap.size,2,none⟩=some (.int .i64 X):=by
   intro o1 o2;have hl:=lt_of_block hT1;rw[World.cell?_of_block (w:=w1.alloc o1) (Below.heap_alloc _ _ _ (by simp;omega)),World.cell?_of_block (w:=w1) (Below.heap_alloc _ _ _ hl)];exact hcX
  clear hT1;have hR1:w1.heap[w.heap.size+1]? =some (.cells #[.slice none 0 0,.slice none 0 0] 228 (0,0)):=(b4.block (w.heap.size+1) (by simp) id).trans (by have:=heap_alloc_new (w.alloc (.cells #[.bool mi,.string (ofL l),.int .i64 X] 194)) (.cells #[.slice none 0 0,.slice none 0 0] 228);rwa[World.size_alloc]at this);have hws:w.heap.size+2≤w1.heap.size:=by have:=b4.size;simp at this;omega
  have HR1:=hid hR1;have B1:=hid b1;have B2:=hid b2;have B4:=hid b4;clear b1 b2 b4 hR1
  go_wp2_with fail
  have hZ1:BigAt ((w1.alloc (.cells #[.int .u64 1] 27)).alloc (.cells #[.slice a1 ws1.length ca1,.slice (some ⟨w1.heap.size,0,none⟩) 1 1] 228)) (.slice (some ⟨w1.heap.size,0,none⟩) 1 1) [1]:=
   BigAt.fr ⟨ownsRow_base (row_one w1 (.int .u64 1) 27),Limbs.one (by omega)⟩ ((Fr.refl _ _).alloc _)
  have hA1:=B1.out.fr (((Fr.refl (fun _=>False) w1).alloc (.cells #[.int .u64 1] 27)).alloc (.cells #[.slice a1 ws1.length ca1,.slice (some ⟨w1.heap.size,0,none⟩) 1 1] 228));have B1':=hid hZ1;refine(btens_int _ [1] (-X) (-X).toNat _ hx.out (by simp;omega) B1'.out).mono ?_;rintro r w2 ⟨v2,ws2,rfl,c1,c2,c3,c4⟩;obtain⟨a2,ca2,rfl⟩:=big_shape c1;have hbF:w2.heap[w1.heap.size+1]? =some (.cells #[.slice a1 ws1.length ca1,.slice (some ⟨w1.heap.size,0,none⟩) 1 1] 228 (0,0)):=(c4.block (w1.heap.size+1) (by simp) id).trans (by have:=heap_alloc_new (w1.alloc (.cells #[.int .u64 1] 27)) (.cells #[.slice a1 ws1.length ca1,.slice (some ⟨w1.heap.size,0,none⟩) 1 1] 228);rwa[World.size_alloc]at this);have hbR:w2.heap[w.heap.size+1]? =some (.cells #[.slice none 0 0,.slice none 0 0] 228 (0,0)):=(c4.block (w.heap.size+1) (by simp;omega) id).trans ((Below.heap_alloc _ _ _ (by simp;omega)).trans ((Below.heap_alloc _ _ _ (by omega)).trans HR1.out));have g0:=two_cell0 hbF;have g1:=two_cell1 hbF;have gf0:=two_free (j:=0) hbF;have gf1:=two_free (j:=1) hbF;have d0:=two_cell0 hbR;have d1:=two_cell1 hbR;have df0:=two_free (j:=0) hbR;have df1:=two_free (j:=1) hbR;have hne:w.heap.size+1≠w1.heap.size+1:=by omega
  have HBR:=hid hbR;have HBF:=hid hbF;have C1:=hid c1;have C2:=hid c2;have HZ:=hid (hZ1.fr c4);have HA:=hid (hA1.fr c4);have HF2:=hid ((((((Fr.refl (fun _=>False) w).alloc _).alloc _).trans B4.out).alloc _).alloc _ |>.trans c4);clear c1 c2 c4 hbF hbR hcX hcX2 hZ1 hA1 B1';go_wp2;have hfin:=two_set1 (u:=(.slice a2 ws2.length ca2)) (two_set0 (u:=(.slice a1 ws1.length ca1)) ((Below.heap_setCell (w2) ⟨w1.heap.size+1,1,none⟩ (.slice a2 ws2.length ca2) (w.heap.size+1) (by simpa using hne)).trans HBR.out));have e0:=two_cell0 hfin;have e1:=two_cell1 hfin;refine bodyPost_ret (v:=.agg #[.slice a1 ws1.length ca1,.slice a2 ws2.length ca2]) (by simp[results,Tryz.results178,go_sem,e0,e1]) rfl ?_
  have HF3:Fr (fun _=>False) w (((w2.setCell ⟨w1.heap.size+1,1,none⟩ (.slice a2 ws2.length ca2)).setCell ⟨w.heap.size+1,0,none⟩ (.slice a1 ws1.length ca1)).setCell ⟨w.heap.size+1,1,none⟩ (.slice a2 ws2.length ca2)):=
   ((HF2.out.setCell (.inr (by simp;omega)) _).setCell (.inr (by simp)) _).setCell (.inr (by simp)) _
  refine⟨_,rfl,⟨_,_,ws1,ws2,rfl,HA.out.set3 HBF.out HBR.out,C1.out.set3 HBF.out HBR.out,?_,?_,by have:=HL.out;omega,by have:=HL.out;simp at c3;omega⟩,HF3⟩
  ·rw[B2.out,show X.toNat=0 by omega,show p10 0=1 from rfl,Nat.mul_one]
  ·rw[C2.out,show val [1]=1 from rfl,Nat.one_mul]
theorem of_any (mi:Bool) (l:List UInt8) (X:Int) (w:World) (hl:l.length≤4000000) (hD:AllD l) (h1: -4000000≤X) (h2:X≤4000000):
 Calls Tryz.prog 178 #[.agg #[.bool mi,.string (ofL l),.int .i64 X]] w fun e w'=>∃v,e=.returned v∧FracAt w' v (num (dv l)*p10 X.toNat) (p10 (-X).toNat) 9000000∧Fr (fun _=>False) w w':=
 of_lim mi l X 9000000 w hl hD h1 h2 (by omega)
end Go.Proofs.YtmkkibaacclhnaaGreatDoor
