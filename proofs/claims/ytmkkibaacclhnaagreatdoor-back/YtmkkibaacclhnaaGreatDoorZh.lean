/-
  A step of the walk, the part named Zh. No theorem of the row.
-/
import Derived.Test.YtmkkibaacclhnaaGreatDoorZg
import Derived.Deep.RegionLaw
import Derived.Deep.DeepCutAuto
import Derived.Deep.CutBlock
namespace Go.Proofs.YtmkkibaacclhnaaGreatDoor
open Go.RowKit
set_option maxRecDepth 100000
set_option maxHeartbeats 16000000
def ValB (k:Nat):Prop:=∀(inn B:Nat) (w0 w:World) (pr:Option Addr) (n cap a:Nat) (vo:Value) (l:List It),inn+k=8→RawR w0 pr n→BC B w0 (fun i=>i=B∨vo.ownBlock=some i) w (.slice pr n cap) vo w a l→a≤100→l.length≤2*a+1→
 Calls Tryz.prog 12 #[.pointer (some ⟨B,0,none⟩),.int .i64 (inn:Int)] w (BPost B w0 (fun i=>i=B∨vo.ownBlock=some i) w (.slice pr n cap) k a l)
theorem value_step (k:Nat) (ih:∀k',k=k'+1→ValB k'):ValB k:=by
 intro inn B w0 w pr n cap a vo l hk hR h ha hl;have H:=hid h;have HRW:=hid hR;have HIH:=hid ih;obtain⟨c0,c1,c2,f1,f2⟩:=h.cells;have hBl:=lt_of_block h.blk;clear h ih;generalize hS:(fun i=>i=B∨vo.ownBlock=some i)=S at*;obtain⟨i0,hi,hz0,hz1,hz2⟩:=info_parts Tryz.info29;go_enter Tryz.func12,Tryz.ntmps12
 go_wp2_with fail
 go_quiet (fail);have HF:=hid (((Fr.refl (fun _=>False) w).alloc (.cells #[.int .i64 0,.int .i64 0,.int .u64 0] 72)).drewN nq);have HN:=hid (show((w.alloc (.cells #[.int .i64 0,.int .i64 0,.int .u64 0] 72)).drewN nq).heap[w.heap.size]? =some (.cells #[.int .i64 0,.int .i64 0,.int .u64 ((0:Nat):Int)] 72 (0,0))from heap_alloc_new w _);clear c0 c1 c2 f1 f2;generalize hgr:(w.alloc (.cells #[.int .i64 0,.int .i64 0,.int .u64 0] 72)).drewN nq=W at*;clear hgr;have H2:=hid (H.out.frm HF.out);generalize hgR:w.heap.size=R at hBl HN ⊢;have HG:=hid (show w.heap.size≤R by omega);clear hgR HF H hR
 go_upto_if 19 with fail
 go_cut [4] (fun v wc=>v=.pointer (some ⟨R,0,none⟩)∧∃(rk rc:Int) (rb:Nat),(-9223372036854775808≤rk∧rk<9223372036854775808)∧(-9223372036854775808≤rc∧rc<9223372036854775808)∧rb<18446744073709551616∧Hid (wc.heap[R]? =some (.cells #[.int .i64 rk,.int .i64 rc,.int .u64 (rb:Int)] 72 (0,0)))∧Hid (BC B w0 S w (.slice pr n cap) vo wc a l))
 case first=>
  by_cases han:a<n
  ·have hz:(a:Int)<(n:Int):=by omega
   obtain⟨c0,c1,c2,f1,f2⟩:=H2.out.cells;have q0:=blk_cell HN.out (show#[Value.int .i64 0,.int .i64 0,.int .u64 ((0:Nat):Int)][0]? =some (.int .i64 0)from rfl);have q1:=blk_cell HN.out (show#[Value.int .i64 0,.int .i64 0,.int .u64 ((0:Nat):Int)][1]? =some (.int .i64 0)from rfl);have q2:=blk_cell HN.out (show#[Value.int .i64 0,.int .i64 0,.int .u64 ((0:Nat):Int)][2]? =some (.int .u64 0)from rfl);have z0:=blk_free (j:=0) HN.out;have z1:=blk_free (j:=1) HN.out;have z2:=blk_free (j:=2) HN.out;obtain⟨ad,rk,rc,rb,hpr,hlt',r0,r1,r2,b1,b2,b3⟩:=(HRW.out.fr H2.out.fr) a han;rw[hpr]at c0;clear hpr;rw[show(ad.add (a*3)).add 1=⟨(ad.add (a*3)).block,(ad.add (a*3)).off+1,none⟩ by simp[Addr.add]]at r1;rw[show(ad.add (a*3)).add 2=⟨(ad.add (a*3)).block,(ad.add (a*3)).off+2,none⟩ by simp[Addr.add]]at r2;have e1:=hid (heap_setCell_same _ R 0 _ 72 (.int .i64 rk) HN.out);have e2:=hid (heap_setCell_same _ R 1 _ 72 (.int .i64 rc) e1.out);have e3:=hid (heap_setCell_same _ R 2 _ 72 (.int .u64 (rb:Int)) e2.out);have H3:=hid (((H2.out.other (j:=0) HN.out (by decide) (by omega) HG.out (.int .i64 rk)).other (j:=1) e1.out (by decide) (by omega) HG.out (.int .i64 rc)).other (j:=2) e2.out (by decide) (by omega) HG.out (.int .u64 (rb:Int)));have H4:=hid (H3.out.frm (Fr.refl (fun _=>False) _).drew)
   go_wp2_with fail
   go_region
   go_wp2_with fail
   go_meet;exact⟨rfl,rk,rc,rb,b1,b2,b3,hid e3.out,H4⟩
  ·have hz:¬(a:Int)<(n:Int):=by omega
   go_wp2_with fail
   go_meet;exact⟨rfl,0,0,0,by omega,by omega,by omega,HN,H2⟩
 case rest=>
  obtain⟨rfl,rk,rc,rb,b1,b2,b3,HRB,H4⟩:=hcut;clear HN H2;obtain⟨-,c1,-,f1,-⟩:=H4.out.cells
  go_upto_region 4 with fail
  have H5:=hid H4.out.more;have HRC:=hid (((Fr.refl (fun i=>i=B) wc).setCell (p:=⟨B,1,none⟩) (.inl rfl) (.int .i64 ((a:Int)+1))).heap HRB.out (show¬R=B by omega));clear c1 f1 H4 HRB;generalize wc.setCell ⟨B,1,none⟩ (.int .i64 ((a:Int)+1))=W3 at*;have p0:=blk_cell HRC.out (show#[Value.int .i64 rk,.int .i64 rc,.int .u64 (rb:Int)][0]? =some (.int .i64 rk)from rfl);have p1:=blk_cell HRC.out (show#[Value.int .i64 rk,.int .i64 rc,.int .u64 (rb:Int)][1]? =some (.int .i64 rc)from rfl);have p2:=blk_cell HRC.out (show#[Value.int .i64 rk,.int .i64 rc,.int .u64 (rb:Int)][2]? =some (.int .u64 (rb:Int))from rfl)
  go_wp2_with fail
  refine Calls.mono (pick_gen rk 7 _ b1.1 b1.2 (by omega) (by omega)) ?_;rintro e w2 ⟨kd,hkd,rfl,hw⟩;have hw2:=hw.symm;subst hw2;clear hw
  go_wp2_with fail
  refine Calls.mono (pick_gen rc 4 _ b2.1 b2.2 (by omega) (by omega)) ?_;rintro e w2 ⟨m,hm,rfl,hw⟩;have hw2:=hw.symm;subst hw2;clear hw;have hm4:m≤3:=by omega
  clear hm b1 b2 p0 p1;by_cases k3:kd=3
  ·subst k3
   have hbd:∃bt:Nat,bt<18446744073709551616∧bt % 9223372036854775808<9218868437227405312∧((bt=rb∧rb % 9223372036854775808<9218868437227405312)∨(bt=rb % 4503599627370496∧9218868437227405312≤rb % 9223372036854775808)):=by
    by_cases hb:rb % 9223372036854775808<9218868437227405312
    ·exact⟨rb,b3,hb,.inl ⟨rfl,hb⟩⟩
    ·exact⟨rb % 4503599627370496,by omega,by omega,.inr ⟨rfl,by omega⟩⟩
   obtain⟨bt,g1,g2,g3⟩:=hbd;have HLF:=hid (lf_num g1 g2);have e1:Int.tmod (rb:Int) 9223372036854775808=((rb % 9223372036854775808:Nat):Int):=by rw[Int.tmod_eq_emod_of_nonneg (by omega)];omega
   have e2:Int.tmod (rb:Int) 4503599627370496=((rb % 4503599627370496:Nat):Int):=by rw[Int.tmod_eq_emod_of_nonneg (by omega)];omega
   obtain⟨-,-,c2,-,f2⟩:=H5.out.cells;have oi:=H5.out.row;obtain⟨av,nv,cv,rfl⟩:=row_shape3 oi;rcases g3 with⟨rfl,g4⟩|⟨rfl,g4⟩
   ·have t1:decide ((9218868437227405312:Int)≤((bt % 9223372036854775808:Nat):Int))=false:=decide_eq_false (by omega)
    clear g1 g2 g4 b3;generalize ((bt % 9223372036854775808:Nat):Int)=r1 at*;generalize ((bt % 4503599627370496:Nat):Int)=r2 at*
    go_wp2_with (first
     |(at_builtin;refine wpList_append_d _ rfl _ _ 22 rfl 29 i0 (.agg #[.int .i64 0,.int .i64 0,.int .u64 0,.string ⟨#[]⟩]) 4 40 Tryz.underlying22 hi hz0 hz1 hz2 rfl (by decide) _ _ _ rfl (oi.alloc _) ⟨W3.heap.size,0,none⟩ 1 1 (itCells ⟨3,0,bt,[]⟩) rfl rfl ?c1 ?c2 ?c3 ?c4 ?_)
     |go_in)
    case c1=>exact four_new _ _ _ _ _ _
    case c2=>intro u hu;simp[itCells]at hu;rcases hu with rfl|rfl|rfl|rfl<;>rfl
    case c3=>unfold maxLen;omega
    case c4=>omega
    intro v' w1 hown' hgrow hnew;obtain⟨a',n',cap',rfl⟩:=row_shape3 hown';obtain⟨hh1,hR1,-⟩:=H5.out.grow ⟨3,0,bt,[]⟩ hown' hgrow hnew;have q2:=blk_cell hh1 (show(bdCells (.slice pr n cap) (a+1) (.slice av nv cv))[2]? =some (.slice av nv cv)from rfl);have p4:=blk_free (j:=2) hh1;have HR1:=hid hR1;clear hown' hgrow hnew hh1 hR1 oi c2 f2;go_wp2;go_end0;exact BPost.leaf HR1.out (Vl.leaf HLF.out _) (by simp)
   ·have t1:decide ((9218868437227405312:Int)≤((rb % 9223372036854775808:Nat):Int))=true:=decide_eq_true (by omega)
    clear g1 g2 g4 b3;generalize rb % 4503599627370496=bt at*;generalize ((rb % 9223372036854775808:Nat):Int)=r1 at*
    go_wp2_with (first
     |(at_builtin;refine wpList_append_d _ rfl _ _ 22 rfl 29 i0 (.agg #[.int .i64 0,.int .i64 0,.int .u64 0,.string ⟨#[]⟩]) 4 40 Tryz.underlying22 hi hz0 hz1 hz2 rfl (by decide) _ _ _ rfl (oi.alloc _) ⟨W3.heap.size,0,none⟩ 1 1 (itCells ⟨3,0,bt,[]⟩) rfl rfl ?c1 ?c2 ?c3 ?c4 ?_)
     |go_in)
    case c1=>exact four_new _ _ _ _ _ _
    case c2=>intro u hu;simp[itCells]at hu;rcases hu with rfl|rfl|rfl|rfl<;>rfl
    case c3=>unfold maxLen;omega
    case c4=>omega
    intro v' w1 hown' hgrow hnew;obtain⟨a',n',cap',rfl⟩:=row_shape3 hown';obtain⟨hh1,hR1,-⟩:=H5.out.grow ⟨3,0,bt,[]⟩ hown' hgrow hnew;have q2:=blk_cell hh1 (show(bdCells (.slice pr n cap) (a+1) (.slice av nv cv))[2]? =some (.slice av nv cv)from rfl);have p4:=blk_free (j:=2) hh1;have HR1:=hid hR1;clear hown' hgrow hnew hh1 hR1 oi c2 f2;go_wp2;go_end0;exact BPost.leaf HR1.out (Vl.leaf HLF.out _) (by simp)
  ·by_cases k4:kd=4
   ·subst k4
    obtain⟨-,-,c2,-,f2⟩:=H5.out.cells;have oi:=H5.out.row;obtain⟨av,nv,cv,rfl⟩:=row_shape3 oi;have HTX:=hid (fun wx=>texT_any rb wx b3);clear b3 oi hS
    go_wp2_with fail
    go_region_law (first
     |(refine step_append_d rfl _ _ 22 rfl 29 i0 (.agg #[.int .i64 0,.int .i64 0,.int .u64 0,.string ⟨#[]⟩]) 4 40 Tryz.underlying22 hi hz0 hz1 hz2 rfl (by decide) (.slice av nv cv) _ _ rfl (OI2.out.alloc _) ⟨w2.heap.size,0,none⟩ 1 1 (itCells ⟨4,0,0,tx⟩) rfl rfl (four_new _ _ _ _ _ _) (by intro u hu;simp[itCells]at hu;rcases hu with rfl|rfl|rfl|rfl<;>rfl) (by unfold maxLen;omega) (by omega) ?_;intro v' w1 hown' hgrow hnew;obtain⟨a',n',cap',rfl⟩:=row_shape3 hown';obtain⟨hh1,hR1,-⟩:=H6.out.grow ⟨4,0,0,tx⟩ hown' hgrow (by simpa using hnew);have q2:=blk_cell hh1 (show(bdCells (.slice pr n cap) (a+1) (.slice av nv cv))[2]? =some (.slice av nv cv)from rfl);have p4:=blk_free (j:=2) hh1;have HR1:=hid hR1;clear hown' hgrow hnew hh1 hR1 c2 f2)
     |(go_simp;go_at_call 29;refine Calls.mono (HTX.out _) ?_;rintro e w2 ⟨tx,hu,htl,rfl,hF⟩;have HU:=hid hu;have HTL:=hid htl;have H6:=hid ((H5.out.frm (Fr.refl (fun _=>False) _).drew).frm hF);have OI2:=hid H6.out.row;obtain⟨-,-,c2,-,f2⟩:=H6.out.cells;have c3:=fun o=>(H6.out.frm ((Fr.refl (fun _=>False) w2).alloc o)).cells.2.2.1;clear hu htl hF))
    all_goals
     go_wp2;go_end0;exact BPost.leaf HR1.out (Vl.leaf (lf_text HU.out) _) HTL.out
   ·by_cases k2:kd<3
    ·have t3:((kd:Int)==3)=false:=beq_eq_false_iff_ne.2 (by omega)
     have t4:((kd:Int)==4)=false:=beq_eq_false_iff_ne.2 (by omega);have t2:(kd:Int)<3:=by omega
     obtain⟨-,-,c2,-,f2⟩:=H5.out.cells;have oi:=H5.out.row;obtain⟨av,nv,cv,rfl⟩:=row_shape3 oi
     go_wp2_with (first
      |(at_builtin;refine wpList_append_d _ rfl _ _ 22 rfl 29 i0 (.agg #[.int .i64 0,.int .i64 0,.int .u64 0,.string ⟨#[]⟩]) 4 40 Tryz.underlying22 hi hz0 hz1 hz2 rfl (by decide) _ _ _ rfl (oi.alloc _) ⟨W3.heap.size,0,none⟩ 1 1 (itCells ⟨kd,0,0,[]⟩) rfl rfl ?c1 ?c2 ?c3 ?c4 ?_)
      |go_in)
     case c1=>exact four_new _ _ _ _ _ _
     case c2=>intro u hu;simp[itCells]at hu;rcases hu with rfl|rfl|rfl|rfl<;>rfl
     case c3=>unfold maxLen;omega
     case c4=>omega
     intro v' w1 hown' hgrow hnew;obtain⟨a',n',cap',rfl⟩:=row_shape3 hown';obtain⟨hh1,hR1,-⟩:=H5.out.grow ⟨kd,0,0,[]⟩ hown' hgrow hnew;have q2:=blk_cell hh1 (show(bdCells (.slice pr n cap) (a+1) (.slice av nv cv))[2]? =some (.slice av nv cv)from rfl);have p4:=blk_free (j:=2) hh1;have HR1:=hid hR1;clear hown' hgrow hnew hh1 hR1 oi c2 f2;go_wp2;go_end0;exact BPost.leaf HR1.out (Vl.leaf (lf_word k2) _) (by simp)
    ·have t3:((kd:Int)==3)=false:=beq_eq_false_iff_ne.2 (by omega)
     have t4:((kd:Int)==4)=false:=beq_eq_false_iff_ne.2 (by omega);have t2:¬(kd:Int)<3:=by omega
     have H56:=hid (show kd=5∨kd=6 by omega);obtain⟨-,c1,c2,-,f2⟩:=H5.out.cells;have oi:=H5.out.row;by_cases hlast:8≤inn∨60<a+1
     ·obtain⟨av,nv,cv,rfl⟩:=row_shape3 oi
      by_cases h8:8≤inn
      ·have t8:(8:Int)≤(inn:Int):=by omega
       clear hlast h8
       go_wp2_with (first
        |(at_builtin;refine wpList_append_d _ rfl _ _ 22 rfl 29 i0 (.agg #[.int .i64 0,.int .i64 0,.int .u64 0,.string ⟨#[]⟩]) 4 40 Tryz.underlying22 hi hz0 hz1 hz2 rfl (by decide) _ _ _ rfl (oi.alloc _) ⟨W3.heap.size,0,none⟩ 1 1 (itCells ⟨kd,0,0,[]⟩) rfl rfl ?c1 ?c2 ?c3 ?c4 ?_)
        |go_in)
       case c1=>exact four_new _ _ _ _ _ _
       case c2=>intro u hu;simp[itCells]at hu;rcases hu with rfl|rfl|rfl|rfl<;>rfl
       case c3=>unfold maxLen;omega
       case c4=>omega
       intro v' w1 hown' hgrow hnew;obtain⟨a',n',cap',rfl⟩:=row_shape3 hown';obtain⟨hh1,hR1,-⟩:=H5.out.grow ⟨kd,0,0,[]⟩ hown' hgrow hnew;have q2:=blk_cell hh1 (show(bdCells (.slice pr n cap) (a+1) (.slice av nv cv))[2]? =some (.slice av nv cv)from rfl);have p4:=blk_free (j:=2) hh1;have HR1:=hid hR1;clear hown' hgrow hnew hh1 hR1 oi c2 f2;go_wp2;go_end0;exact BPost.leaf HR1.out (vl_none H56.out) (by simp)
      ·have t8:¬(8:Int)≤(inn:Int):=by omega
       have t60:(60:Int)<((a+1:Nat):Int):=by omega
       clear hlast h8
       go_wp2_with (first
        |(at_builtin;refine wpList_append_d _ rfl _ _ 22 rfl 29 i0 (.agg #[.int .i64 0,.int .i64 0,.int .u64 0,.string ⟨#[]⟩]) 4 40 Tryz.underlying22 hi hz0 hz1 hz2 rfl (by decide) _ _ _ rfl (oi.alloc _) ⟨W3.heap.size,0,none⟩ 1 1 (itCells ⟨kd,0,0,[]⟩) rfl rfl ?c1 ?c2 ?c3 ?c4 ?_)
        |go_in)
       case c1=>exact four_new _ _ _ _ _ _
       case c2=>intro u hu;simp[itCells]at hu;rcases hu with rfl|rfl|rfl|rfl<;>rfl
       case c3=>unfold maxLen;omega
       case c4=>omega
       intro v' w1 hown' hgrow hnew;obtain⟨a',n',cap',rfl⟩:=row_shape3 hown';obtain⟨hh1,hR1,-⟩:=H5.out.grow ⟨kd,0,0,[]⟩ hown' hgrow hnew;have q2:=blk_cell hh1 (show(bdCells (.slice pr n cap) (a+1) (.slice av nv cv))[2]? =some (.slice av nv cv)from rfl);have p4:=blk_free (j:=2) hh1;have HR1:=hid hR1;clear hown' hgrow hnew hh1 hR1 oi c2 f2;go_wp2;go_end0;exact BPost.leaf HR1.out (vl_none H56.out) (by simp)
     ·have t8:¬(8:Int)≤(inn:Int):=by omega
      have t60:¬(60:Int)<((a+1:Nat):Int):=by omega
      obtain⟨k',rfl⟩:∃k',k=k'+1:=⟨k-1,by omega⟩;have h60:a+1≤60:=by omega
      obtain⟨av,nv,cv,rfl⟩:=row_shape3 oi;have HV:=hid (fun (wx:World) (a2:Nat) (vx:Value) (lx:List It) (hb:BC B w0 S w (.slice pr n cap) vx wx a2 lx) (h1:a2≤100) (h2:lx.length≤2*a2+1)=>(show Calls Tryz.prog 12 #[.pointer (some ⟨B,0,none⟩),.int .i64 ((inn:Int)+1)] wx (BPost B w0 (fun i=>i=B∨vx.ownBlock=some i) wx (.slice pr n cap) k' a2 lx)from HIH.out k' rfl (inn+1) B w0 wx pr n cap a2 vx lx (by omega) HRW.out hb.start h1 h2));clear hlast k3 k4 k2 HIH HRW
      go_wp2_with (first
       |(at_builtin;refine wpList_append_d _ rfl _ _ 22 rfl 29 i0 (.agg #[.int .i64 0,.int .i64 0,.int .u64 0,.string ⟨#[]⟩]) 4 40 Tryz.underlying22 hi hz0 hz1 hz2 rfl (by decide) _ _ _ rfl (oi.alloc _) ⟨W3.heap.size,0,none⟩ 1 1 (itCells ⟨kd,m,0,[]⟩) rfl rfl ?c1 ?c2 ?c3 ?c4 ?_)
       |go_in)
      case c1=>exact four_new _ _ _ _ _ _
      case c2=>intro u hu;simp[itCells]at hu;rcases hu with rfl|rfl|rfl|rfl<;>rfl
      case c3=>unfold maxLen;omega
      case c4=>omega
      intro v' w1 hown' hgrow hnew;obtain⟨a',n',cap',rfl⟩:=row_shape3 hown';obtain⟨hh1,hR1,hR2⟩:=H5.out.grow ⟨kd,m,0,[]⟩ hown' hgrow hnew;have q2:=blk_cell hh1 (show(bdCells (.slice pr n cap) (a+1) (.slice av nv cv))[2]? =some (.slice av nv cv)from rfl);have p4:=blk_free (j:=2) hh1;have HR1:=hid hR1;have HR2:=hid (hR2 R 72 _ HRC.out (by decide) (by omega));clear hown' hgrow hnew hh1 hR1 hR2 oi c1 c2 f2 p2 H5 HRC
      go_wp2_with fail
      generalize w1.setCell ⟨B,2,none⟩ (.slice a' n' cap')=W4 at*;clear q2 p4;have HS0:=hid (show(l++[(⟨kd,m,0,[]⟩:It)])=l++⟨kd,m,0,[]⟩::[] by rfl);rw[HS0.out]at HR1;clear HS0;have HP0:=hid (PartsI.zero (e:=k'+1) H56.out)
      go_loopw [8] (fun iv wr=>∃(i a2:Nat) (vx:Value) (its:List It),iv=.int .i64 (i:Int)∧i≤m∧Hid (BC B w0 S w (.slice pr n cap) vx wr a2 (l++⟨kd,m,0,[]⟩::its))∧Hid (wr.heap[R]? =some (.cells #[.int .i64 rk,.int .i64 rc,.int .u64 (rb:Int)] 72 (0,0)))∧Hid (PartsI kd (k'+1) i its)∧Hid (a+1≤a2∧a2≤60+3*k'+i∧its.length≤2*(a2-(a+1))∧lw its≤1100*(a2-(a+1)))) (fun iv _=>m-(intOf iv).toNat)
      case atStart=>exact⟨0,a+1,_,[],rfl,Nat.zero_le _,HR1,HR2,HP0,hid ⟨Nat.le_refl _,by omega,by simp,by simp[lw]⟩⟩
      case round=>
       clear HR1 HR2 HP0;obtain⟨i,a2,vx,its,rfl,him,HB,HRX,HP,HQ⟩:=hrel;by_cases hlt:i<m
       ·have hzi:(i:Int)<(m:Int):=by omega
        have HQ1:=hid (show a2≤100∧(l++(⟨kd,m,0,[]⟩:It)::its).length≤2*a2 by
         have:=HQ.out;rw[List.length_append,List.length_cons]
         omega)
        rcases H56.out with h5|h6
        ·have t6:((kd:Int)==6)=false:=beq_eq_false_iff_ne.2 (by omega)
         have H5K:=hid h5;clear h5
         go_wp2_with fail
         refine Calls.mono (HV.out wr a2 vx _ HB.out HQ1.out.1 (by have:=HQ1.out.2;omega)) ?_;rintro e w2 ⟨rfl,vo2,a3,its2,hB2,hV2,g1,g2,g3,g4⟩;have HB2:=hid (HB.out.trans hB2);have HR2:=hid (hB2.fs.heap HRX.out (fun h=>h.elim (fun e=>by omega) (fun e=>rowT HB.out.row HRX.out (by decide) e)));have HV2:=hid hV2;have HG2:=hid (And.intro g1 (And.intro g2 (And.intro g3 g4)));clear hB2 hV2 g1 g2 g3 g4
         go_wp2_with fail
         go_roundw
         case rel=>
          obtain⟨q1,q2,q3,q4⟩:=HQ.out;obtain⟨g1,g2,g3,g4⟩:=HG2.out;have hB3:=HB2.out;rw[List.append_assoc,List.cons_append]at hB3;have hp:=HP.out;rw[H5K.out]at hp;have hpp:PartsI kd (k'+1) (i+1) (its++its2):=by rw[H5K.out];exact hp.arr HV2.out
          have hqq:a+1≤a3∧a3≤60+3*k'+(i+1)∧(its++its2).length≤2*(a3-(a+1))∧lw (its++its2)≤1100*(a3-(a+1)):=⟨by omega,by omega,by rw[List.length_append];omega,by rw[lw_append];omega⟩;exact⟨i+1,a3,vo2,its++its2,by simp,by omega,hid hB3,HR2,hid hpp,hid hqq⟩
         case measure=>simp only[intOf];omega
        ·have t6:((kd:Int)==6)=true:=by rw[h6];rfl
         have H6K:=hid h6;clear h6;obtain⟨-,-,c2,-,f2⟩:=HB.out.cells;have p2:=blk_cell HRX.out (show#[Value.int .i64 rk,.int .i64 rc,.int .u64 (rb:Int)][2]? =some (.int .u64 (rb:Int))from rfl);obtain⟨av2,nv2,cv2,rfl⟩:=row_shape3 HB.out.row;have hq0:rb/(i+1)<18446744073709551616:=Nat.lt_of_le_of_lt (Nat.div_le_self _ _) b3
         have hq1:Int.tdiv (rb:Int) ((i:Int)+1)=((rb/(i+1):Nat):Int):=by
          rw[Int.tdiv_eq_ediv_of_nonneg (by omega),Int.natCast_ediv];rfl
         obtain⟨rq,hrq⟩:∃rq,rb/(i+1)=rq:=⟨_,rfl⟩;rw[hrq]at hq0 hq1;clear hrq;have hq2:=IntWalk.u64_in (rq:Int) ⟨by omega,by omega⟩;have hq3:=IntWalk.i64_in ((i:Int)+1) (by omega);have hq4:=IntWalk.u64_in ((i:Int)+1) ⟨by omega,by omega⟩;have hq5:((i:Int)+1==0)=false:=beq_eq_false_iff_ne.2 (by omega);have hq6:(i:Int)+1≠0:=by omega
         have HTX:=hid (fun wx=>texT_any rq wx hq0);clear hq0
         go_wp2_with fail
         go_region_law (first
          |(refine step_append_d rfl _ _ 22 rfl 29 i0 (.agg #[.int .i64 0,.int .i64 0,.int .u64 0,.string ⟨#[]⟩]) 4 40 Tryz.underlying22 hi hz0 hz1 hz2 rfl (by decide) (.slice av2 nv2 cv2) _ _ rfl (OI2.out.alloc _) ⟨w2.heap.size,0,none⟩ 1 1 (itCells ⟨4,0,0,tx⟩) rfl rfl (four_new _ _ _ _ _ _) (by intro u hu;simp[itCells]at hu;rcases hu with rfl|rfl|rfl|rfl<;>rfl) (by have:=HQ1.out.2;have:=HQ1.out.1;unfold maxLen;omega) (by have:=HQ1.out.2;have:=HQ1.out.1;omega) ?_;intro v' w1 hown' hgrow hnew;obtain⟨a',n',cap',rfl⟩:=row_shape3 hown';obtain⟨hh1,hR1,hR2⟩:=H6.out.grow ⟨4,0,0,tx⟩ hown' hgrow (by simpa using hnew);have q2:=blk_cell hh1 (show(bdCells (.slice pr n cap) a2 (.slice av2 nv2 cv2))[2]? =some (.slice av2 nv2 cv2)from rfl);have p4:=blk_free (j:=2) hh1;have HR1:=hid hR1;have HR3:=hid (hR2 R 72 _ H7.out (by decide) (by omega));clear hown' hgrow hnew hh1 hR1 hR2 c2 f2)
          |(go_simp;go_at_call 29;refine Calls.mono (HTX.out _) ?_;rintro e w2 ⟨tx,hu,htl,rfl,hF⟩;have HU:=hid hu;have HTL:=hid htl;have H6:=hid ((HB.out.frm (Fr.refl (fun _=>False) _).drew).frm hF);have H7:=hid (hF.heap HRX.out id);have OI2:=hid H6.out.row;obtain⟨-,-,c2,-,f2⟩:=H6.out.cells;have c3:=fun o=>(H6.out.frm ((Fr.refl (fun _=>False) w2).alloc o)).cells.2.2.1;clear hu htl hF))
         all_goals
          clear q2 p4 c3 H6 H7 OI2 HTX p2
          go_wp2_with fail
          refine Calls.mono (HV.out _ a2 _ _ HR1.out HQ1.out.1 (by have:=HQ1.out.2;rw[List.length_append,List.length_singleton];omega)) ?_;rintro e w3 ⟨rfl,vo2,a3,its2,hB2,hV2,g1,g2,g3,g4⟩;have HB2:=hid (HR1.out.trans hB2);have HR4:=hid (hB2.fs.heap HR3.out (fun h=>h.elim (fun e=>by omega) (fun e=>rowT HR1.out.row HR3.out (by decide) e)));have HV2:=hid hV2;have HG2:=hid (And.intro g1 (And.intro g2 (And.intro g3 g4)));clear hB2 hV2 g1 g2 g3 g4 HR1 HR3
          go_wp2_with fail
          go_roundw
          case rel=>
           obtain⟨q1,q2,q3,q4⟩:=HQ.out;obtain⟨g1,g2,g3,g4⟩:=HG2.out;have htl:=HTL.out;have hB3:=HB2.out;rw[List.append_assoc,List.append_assoc,List.cons_append,←List.append_assoc its]at hB3;have hp:=HP.out;rw[H6K.out]at hp;have hpp:PartsI kd (k'+1) (i+1) (its++[⟨4,0,0,tx⟩]++its2):=by rw[H6K.out];exact hp.obj HU.out HV2.out
           have hqq:a+1≤a3∧a3≤60+3*k'+(i+1)∧(its++[(⟨4,0,0,tx⟩:It)]++its2).length≤2*(a3-(a+1))∧lw (its++[(⟨4,0,0,tx⟩:It)]++its2)≤1100*(a3-(a+1)):=by
            have e1:lw [(⟨4,0,0,tx⟩:It)]=6*tx.length+500:=by simp[lw]
            refine⟨by omega,by omega,by rw[List.length_append,List.length_append,List.length_singleton];omega,by rw[lw_append,lw_append,e1];omega⟩
           exact⟨i+1,a3,vo2,its++[⟨4,0,0,tx⟩]++its2,by simp,by omega,hid hB3,HR4,hid hpp,hid hqq⟩
          case measure=>simp only[intOf];omega
       ·obtain rfl:i=m:=by omega
        have hzi:¬(i:Int)<(i:Int):=by omega
        go_wp2;go_end0;obtain⟨q1,q2,q3,q4⟩:=HQ.out;refine⟨rfl,vx,a2,⟨kd,i,0,[]⟩::its,HB.out,HP.out.vl,by omega,by omega,by rw[List.length_cons];omega,?_⟩
        show 6*0+500+lw its+548≤_
        omega
theorem value_all (k:Nat):ValB k:=by
 induction k with
 |zero=>exact value_step 0 (fun k' h=>by omega)
 |succ k ih=>
  refine value_step (k+1) (fun k' h=>?_);injection h with h
  rw[←h];exact ih
end Go.Proofs.YtmkkibaacclhnaaGreatDoor
