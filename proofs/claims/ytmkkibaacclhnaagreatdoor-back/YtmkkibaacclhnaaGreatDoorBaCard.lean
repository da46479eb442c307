/-
  The law decantkeep.Back, first form, its card: whatever the raw numbers, the indent and the pieces, the two tables of unicode/utf8 laid as the program's text lays them: what the program writes it reads as the value, and what it has formatted it formats again; nothing that it was given is changed.
-/
import Derived.Test.YtmkkibaacclhnaaGreatDoorRows
import Derived.Test.YtmkkibaacclhnaaGreatDoorTie
import Derived.Test.YtmkkibaacclhnaaGreatDoorCards
import Derived.Test.YtmkkibaacclhnaaGreatDoorZj
import Derived.Lib.LaidIn
import Derived.Lib.LaidU8T
import Derived.Deep.DeepHandedRow
import Derived.Deep.DeepWitnessRowRef
import Derived.ProofKit
import Derived.OpenShut
import Derived.JoinedCond
import Derived.Carry
import Derived.ChangeSlices
import Derived.SizedLaws
import Derived.Leaving
namespace Go.Proofs.YtmkkibaacclhnaaGreatDoor
open Go.ChangeShapes Go.WideShapes Go.ChangeAt Go.RowKit
set_option maxRecDepth 100000
set_option maxHeartbeats 16000000
theorem door_own:ownKnob Tryz.prog.godebug=none:=by kernel_rfl
theorem door_laid:laidOutB Tryz.prog=true:=by kernel_rfl
theorem Tryz.cells72R:Tryz.prog.cellsOf 72=3:=by kernel_rfl
theorem Tryz.cells3D:Tryz.prog.cellsOf 3=1:=by kernel_rfl
theorem Tryz.cells27D:Tryz.prog.cellsOf 27=1:=by kernel_rfl
theorem Tryz.fields72R:(Tryz.prog.underlying 72).map (fun d=>match d with|.struct fs=>fs.toList.map (fun f=>(f.type,f.offset))|_=>[])=some [(3,0),(3,1),(27,2)]:=by kernel_rfl
theorem Tryz.struct72R:∃f0 f1 f2:Field,Tryz.prog.underlying 72=some (.struct #[f0,f1,f2])∧(f0.type=3∧f0.offset=0)∧(f1.type=3∧f1.offset=1)∧f2.type=27∧f2.offset=2:=by
 have h:=Tryz.fields72R;cases hu:Tryz.prog.underlying 72 with
 |none=>rw[hu]at h;cases h
 |some d=>
  rw[hu]at h;simp only[Option.map_some,Option.some.injEq]at h;split at h
  ·rename_i fs
   obtain⟨l⟩:=fs
   match l,h with
   |[],h=>cases h
   |[_],h=>simp at h
   |[_,_],h=>simp at h
   |[f0,f1,f2],h=>
    simp at h;exact⟨f0,f1,f2,rfl,h.1,h.2.1,h.2.2⟩
   |_::_::_::_::_,h=>simp at h
  ·cases h
theorem list_three {α:Type} (l:List α) (h:l.length=3):∃a b c,l=[a,b,c]:=by
 match l,h with
 |[a,b,c],_=>exact⟨a,b,c,rfl⟩
theorem open_raw {H:Type} {enc:TypeId×Value→H} {w:World} {base:Nat} {spare:Nat→Bool} {held:Bool} {fuel:Nat} {a:Addr} {y:DataW H×List MemPlace}
 (h:(w.cells? base a (Tryz.prog.cellsOf 72)).bind (DataW.trod enc Tryz.prog w base spare held fuel 72)=some y):
 ∃(k c:Int) (b:Nat),w.cell? a=some (.int .i64 k)∧w.cell? (a.add 1)=some (.int .i64 c)∧w.cell? (a.add 2)=some (.int .u64 (b:Int))∧(-9223372036854775808≤k∧k<9223372036854775808)∧(-9223372036854775808≤c∧c<9223372036854775808)∧b<18446744073709551616:=by
 obtain⟨cs,hcs,hy⟩:=Option.bind_eq_some_iff.1 h;obtain⟨_,hl,hc⟩:=World.cells?_some hcs;rw[Tryz.cells72R]at hl hc;obtain⟨f0,f1,f2,hu,⟨t0,o0⟩,⟨t1,o1⟩,t2,o2⟩:=Tryz.struct72R;obtain⟨xs,n,_,rfl,_,hxl,hf⟩:=DataW.trod_struct hu hy;have g0:=hf 0 f0 rfl;have g1:=hf 1 f1 rfl;have g2:=hf 2 f2 rfl;have hxl3:xs.length=3:=hxl;clear hy hf hxl h hcs;obtain⟨c0,c1,c2,rfl⟩:=list_three cs hl;obtain⟨x0,x1,x2,rfl⟩:=list_three xs hxl3;rw[t0,o0,Tryz.cells3D]at g0;rw[t1,o1,Tryz.cells3D]at g1;rw[t2,o2,Tryz.cells27D]at g2;obtain⟨k,e0,rfl,hk⟩:=DataW.trod_int Tryz.underlying3 g0;obtain⟨z,e1,rfl,hz⟩:=DataW.trod_int Tryz.underlying3 g1;obtain⟨b,e2,rfl,hb⟩:=DataW.trod_int Tryz.underlying27 g2;simp at e0 e1 e2;subst e0 e1 e2;have a0:=hc 0 (by omega);have a1:=hc 1 (by omega);have a2:=hc 2 (by omega);have hk2:=bounds_i64 hk;have hz2:=bounds_i64 hz;have hb2:=bounds_u64 hb;obtain⟨bn,rfl⟩:∃bn:Nat,b=bn:=⟨b.toNat,by omega⟩;refine⟨k,z,bn,?_,a1,a2,by omega,by omega,by omega⟩;simpa[Addr.add]using a0
theorem accept_same:Rows.laid_unicode_utf8_acceptRanges (H:=Unit)=Lib.acceptData:=rfl
theorem first_same:Rows.laid_unicode_utf8_first=Lib.firstData:=by kernel_rfl
theorem tabs_of {W:World} (h:laidMetH Tryz.prog Rows.backRow.laid W):Tabs W:=by
 have h1:=Lib.laidMet.reads (P:=Tryz.prog) (l:=Rows.backRow.laid) h (.head _);have h2:=Lib.laidMet.reads (P:=Tryz.prog) (l:=Rows.backRow.laid) h (.tail _ (.head _));rw[accept_same]at h1;rw[first_same]at h2;exact utf8Tabs_of_readsT (U8Types.of196 Tryz.laysValid) ⟨by kernel_rfl,by kernel_rfl,by kernel_rfl,by kernel_rfl,by kernel_rfl,by kernel_rfl,by kernel_rfl⟩ h2 h1
theorem back_contract (H:Type) (enc:TypeId×Value→H) (W:World) (base:Nat) (args:Array Value) (ds gs:List (DataW H)) (before:List MemPlace)
 (hval:∀(j:Nat) t v,Tryz.f4.params[j]? =some t→args[j]? =some v→Value.okWide Tryz.prog W .any base t v)
 (hW:DataW.Whole enc Tryz.prog Tryz.f4.params.toList Rows.backSpec.vars false W args.toList ds gs before) (hL:laidMetH Tryz.prog Rows.backRow.laid W):
 Calls Tryz.prog 4 args W fun e W'=>∃v,e=.returned v∧Rows.backSpec.post enc Tryz.prog Tryz.f4 false true false false W args v W':=by
 have hT:=tabs_of hL;have hW':=hW;obtain⟨p,q,hA0,hV,rfl,hfz,hnd⟩:=hW;have hA:DataW.TrodAll enc Tryz.prog W 0 (fun _=>true) true Tryz.f4.params.toList args.toList ds p:=hA0;rw[Tryz.params4]at hA hval;obtain⟨v0,vs0,d0,ds0,p0,q0,hargs,rfl,rfl,h0,r0⟩:=trodAll_cons hA;obtain⟨v1,vs1,d1,ds1,p1,q1,rfl,rfl,rfl,h1,r1⟩:=trodAll_cons r0;obtain⟨v2,vs2,d2,ds2,p2,q2,rfl,rfl,rfl,h2,r2⟩:=trodAll_cons r1;obtain⟨rfl,rfl,rfl⟩:=trodAll_nil r2;obtain rfl:args=#[v0,v1,v2]:=by cases args;simp_all
 obtain⟨rfl,rfl⟩:=trodVars_none hV;obtain⟨a1,rfl,rfl,rfl,w1⟩:=open_int Tryz.underlying3 (hval 1 3 v1 rfl rfl) h1;obtain⟨a2,rfl,rfl,rfl,w2⟩:=open_int Tryz.underlying3 (hval 2 3 v2 rfl rfl) h2;obtain⟨pa,n,cap,rfl⟩:=okWide_slice Tryz.underlying32 (hval 0 32 v0 rfl rfl);have h0k:=h0;obtain⟨fuel,hf⟩:=h0;clear hA0;simp only[List.append_nil]at hW';have hlt:∀x∈p0,x.block<W.heap.size:=fun x hx=>by simpa using hW'.lt x hx
 have hargs0:∀(W':World),Below W.heap.size W W'→DataW.Trod enc Tryz.prog W' 0 (fun b=>decide (b<W.heap.size)) true 32 (.slice pa n cap) d0 p0:=
  fun W' hn=>Below.trod door_laid (by kernel_rfl) (of_decide_eq_true (by kernel_rfl)) h0k hn hlt
 have y1:=bounds_i64 w1;have y2:=bounds_i64 w2
 have close:RawR W pa n→
  Calls Tryz.prog 4 #[.slice pa n cap,.int .i64 a1,.int .i64 a2] W fun e W'=>∃v,e=.returned v∧Rows.backSpec.post enc Tryz.prog Tryz.f4 false true false false W #[.slice pa n cap,.int .i64 a1,.int .i64 a2] v W':=by
  intro hR;refine(back_any W pa n cap a1 a2 hR hT (by omega) (by omega) (by omega) (by omega)).mono fun e W' ⟨he,hg⟩=>?_
  subst he
  exact⟨_,rfl,_,_,_,[],p0,[],hW',trodAll_cons_mk (shut_bool Tryz.underlying4 _) trodAll_mk0,by
   have hh:=trodAll_cons_mk (hargs0 W' hg.below) (trodAll_mk2 (shut_int Tryz.underlying3 w1) (shut_int Tryz.underlying3 w2));simp only[List.append_nil]at hh
   exact hh,rfl,hg.below.frame _,fun h=>by cases h⟩
 rcases DataW.trod_slice Tryz.underlying32 hf with⟨hcs,hx⟩|⟨a,len',cap',elems,rest,n',_,hcs,hx,_,hl,hm,hlen,hel,hsp,_⟩
 ·simp[Value.cells]at hcs
  obtain⟨rfl,rfl,rfl⟩:=hcs;exact close (fun i hi=>by omega)
 ·simp[Value.cells]at hcs
  obtain⟨rfl,rfl,rfl⟩:=hcs;simp only[Prod.mk.injEq]at hx;obtain⟨rfl,rfl⟩:=hx;refine close fun i hi=>?_
  have hy:∃y,elems[i]? =some y:=⟨_,List.getElem?_eq_getElem (by omega)⟩;obtain⟨y,hy⟩:=hy;obtain⟨k,c,b,q0,q1,q2,q3⟩:=open_raw ((hel i hi).trans hy);rw[Tryz.cells72R]at q0 q1 q2;refine⟨a,k,c,b,rfl,?_,q0,q1,q2,q3⟩;obtain⟨b,off,spot⟩:=a;refine hlt (.cell b off) (List.mem_append.2 (.inl (MemPlace.mem_row.2 ⟨0,?_,by simp⟩)));rw[Tryz.cells72R];omega
noncomputable def laidWorld (os:Os):World:=
 let w0:=World.holding Tryz.prog os ⟨#[],#[],[]⟩
 let put (h:Array Obj) (g:Nat) (cs:Array Value):Array Obj:=h.modify g fun
  |.cells _ t frozen=>.cells cs t frozen
  |o=>o
 let h1:=put w0.heap 0 (Lib.firstTab.map fun z=>Value.int .u8 z).toArray
 let h2:=put h1 1 ((List.range 16).flatMap fun i=>[Value.int .u8 (Lib.accLo i),Value.int .u8 (Lib.accHi i)]).toArray
 {w0 with heap:=h2}
theorem laid_same:Rows.backRow.laid=[("unicode/utf8.acceptRanges",Lib.acceptData),("unicode/utf8.first",Lib.firstData)]:=by
 show[("unicode/utf8.acceptRanges",Rows.laid_unicode_utf8_acceptRanges),("unicode/utf8.first",Rows.laid_unicode_utf8_first)]=_
 rw[accept_same,first_same]
theorem laid_met (os:Os) (args:Array Value):laidMet Tryz.prog Rows.backRow.laid ((laidWorld os).forCall (fun _ _=>0) ⟨#[],args,[]⟩).memory:=by
 rw[laid_same];exact(LaidIn.of_run (l:=[("unicode/utf8.acceptRanges",Lib.acceptData),("unicode/utf8.first",Lib.firstData)]) [1,0] 8 (by kernel_rfl) (by kernel_rfl) (by kernel_rfl) (by kernel_rfl)).met
theorem back_witness (os:Os) {H:Type} (enc:TypeId×Value→H):
 (OpenSpec.ofChange Rows.backSpec).preRow enc Tryz.prog Tryz.f4 Rows.backRow.domain false Rows.backRow.laid ((laidWorld os).forCall (fun _ _=>0) ⟨#[],#[.slice none 0 0,.int .i64 0,.int .i64 0],[]⟩).memory #[.slice none 0 0,.int .i64 0,.int .i64 0]:=by
 have hw:(DataW.whole enc Tryz.prog ((laidWorld os).forCall (fun _ _=>0) ⟨#[],#[.slice none 0 0,.int .i64 0,.int .i64 0],[]⟩).memory Tryz.f4.params.toList Rows.backSpec.vars false #[Value.slice none 0 0,.int .i64 0,.int .i64 0].toList 8).map (fun x=>(x.1,x.2.1))=
  some ([.nil,.lit (.int .i64 0),.lit (.int .i64 0)],[]):=by kernel_rfl
 obtain⟨⟨x1,x2,x3⟩,hx,hx1⟩:=Option.map_eq_some_iff.1 hw;simp only[Prod.mk.injEq]at hx1;obtain⟨rfl,rfl⟩:=hx1;exact OpenSpec.preRow_of_cond 8 hx (by kernel_rfl) (fun k hk=>by cases hk) (by kernel_rfl) (laid_met os _)
theorem back_lifted (os:Os) (started:os.Started) (H:Type) (enc:TypeId×Value→H) (F:Stop.Interp):
 ReturnsInHanded {} Tryz.checked os 4 .any ((OpenSpec.ofChange Rows.backSpec).preRow enc Tryz.prog Tryz.f4 Rows.backRow.domain false Rows.backRow.laid) (((OpenSpec.ofChange Rows.backSpec).at F).post enc Tryz.prog Tryz.f4 false true false false):=by
 refine returnsInHanded_of_row (C:=Tryz.checked) (s:=OpenSpec.ofChange Rows.backSpec) door_own started (by kernel_rfl) Tryz.func4
  (witness_row_atRef (enc:=enc) (C:=Tryz.checked) false (laidWorld os) #[.slice none 0 0,.int .i64 0,.int .i64 0] rfl (by kernel_rfl) (by kernel_rfl) (by kernel_rfl) (back_witness os enc)) ?_
 intro W base args ds gs before hval hW _ _ _ hL _ _;exact back_contract H enc W base args ds gs before hval hW hL
theorem alone_leaving {P:Program} {m:Machine} {w:World} {t:Trace} (h:aloneAtReturn P m w t):leavingAtReturn P m w t:=⟨h.2.1,onlyLeaving_of_quiet h.1,h.2.2⟩
theorem open_mono {a:Assume} {st:Option Stop.Interp} {C:Checked} {os:Os} {f:FuncId} {r:Reach} {ok:Program→World→Reach→Nat→FuncId→Input→Prop} {Pre:World→Array Value→Prop} {Post:World→Array Value→Value→World→Prop} {A B:Machine→World→Trace→Prop} {al:Machine→Prop}
 (hAB:∀m w t,A m w t→B m w t) (h:ReturnsInOpen a st C os f r ok Pre Post A al):ReturnsInOpen a st C os f r ok Pre Post B al:=by
 obtain⟨h1,h2,h3,h4,h5⟩:=h;refine⟨h1,h2,h3,h4,fun w tape i hf=>?_⟩;obtain⟨n,v,w',q1,q2,q3,q4,⟨j,last,r1,r2,r3⟩,q6⟩:=h5 w tape i hf;exact⟨n,v,w',q1,q2,q3,q4,⟨j,last,r1,r2,hAB _ _ _ r3⟩,q6⟩
def aloneRow:OpenClaim:={Rows.backRow with leaving:=false}
theorem alone_holds:aloneRow.holds Tryz.pinned (OpenSpec.ofChange Rows.backSpec):=
 OpenClaim.holds_of_cond 4 Tryz.f4 rfl rfl rfl rfl rfl rfl rfl ⟨rfl,rfl,rfl,rfl,rfl⟩ rfl rfl rfl rfl rfl (by kernel_rfl) Tryz.func4 (by kernel_rfl)
  (of_decide_eq_true (by kernel_rfl)) (by unfold Func.isWrapper;first|(rw[if_pos (by decide+kernel)];kernel_rfl)|(rw[if_neg (by decide+kernel)];exact⟨rfl,rfl⟩))
  (fun os started H enc _ F=>by rw[OpenClaim.pre_eq_preRow];exact back_lifted os started H enc F)
theorem back_said:Rows.BackSaid:=by
 obtain⟨h1,h2,h3,h4,h5,h6,h7,h8,f,fn,k1,k2,k3,k4,k5,k6,k7,k8,k9,k10,k11,k12,k13,k14,k15,k16,k17,k18,k19,k20,k21,L,hL,hrun⟩:=alone_holds;refine⟨by kernel_rfl,h2,h3,h4,h5,h6,h7,h8,f,fn,k1,k2,k3,k4,k5,k6,k7,k8,k9,k10,k11,k12,k13,k14,k15,k16,k17,k18,k19,k20,k21,L,hL,fun os st q H enc inj=>?_⟩;have hr:∀F,ReturnsInOpen _ _ _ _ _ _ _ _ _ (aloneAtReturn Tryz.pinned.checked.prog) _:=hrun os st q H enc inj;exact fun F=>open_mono (fun m w t=>alone_leaving) (hr F)
theorem back_plain (f:FuncId) (fn:Func) (hf:Tryz.pinned.checked.prog.funcNamed "decant/decantkeep.Back" =some f) (hfn:Tryz.pinned.checked.prog.funcs[f]? =some fn):
 true=Tryz.pinned.checked.prog.looks []∧∀(j:Nat) t,fn.params[j]? =some t→Tryz.pinned.checked.prog.wantsStandIn t=false:=by
 obtain rfl:f=4:=Option.some.inj ((show Tryz.prog.funcNamed "decant/decantkeep.Back" =some 4 by kernel_rfl).symm.trans hf) |>.symm;obtain rfl:fn=Tryz.f4:=(Option.some.inj (Tryz.func4.symm.trans hfn)).symm;refine⟨by kernel_rfl,fun j t ht=>?_⟩;rw[Tryz.params4]at ht;have hm:t=32∨t=3∨t=3:=by simpa using Array.mem_of_getElem? ht
 rcases hm with rfl|rfl|rfl
 ·exact(show Tryz.prog.wantsStandIn 32=false by kernel_rfl)
 ·exact(show Tryz.prog.wantsStandIn 3=false by kernel_rfl)
 ·exact(show Tryz.prog.wantsStandIn 3=false by kernel_rfl)
theorem back_card:Rows.BackCardSaid:=by
 refine⟨?_,?_,?_,?_,?_⟩
 ·exact Claim7.tied_new_at .later [.data,.pinned] true (Claim7.new_of_sixth back_said Rows.backCard.stood.harness true rfl ⟨rfl,rfl⟩ (by kernel_rfl) (by kernel_rfl) back_plain) (by kernel_rfl)
 ·intro D hD
  have hD:D∈([]:List (List PathCond)):=hD;simp at hD
 ·exact back_row_tie
 ·intro h
  have h:false=true:=h;cases h
 ·kernel_rfl
#print axioms back_card
end Go.Proofs.YtmkkibaacclhnaaGreatDoor
