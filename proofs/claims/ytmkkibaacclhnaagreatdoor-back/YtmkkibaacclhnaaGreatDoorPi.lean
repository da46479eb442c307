/-
  A step of the walk, the part named Pi. No theorem of the row.
-/
import Derived.Test.YtmkkibaacclhnaaGreatDoorPf
import Derived.Deep.DeepCutAuto
import Derived.Deep.RegionHeld3
import Derived.Deep.RegionLaw
import Derived.RegionDies
namespace Go.Proofs.YtmkkibaacclhnaaGreatDoor
open Go.RowKit
set_option maxRecDepth 100000
set_option maxHeartbeats 16000000
theorem sev_a (B o T:Nat) (cs:Array Value) (v:Value) (t:Tr) (c:UInt8) (n:Int) (w:World) (hT:T≠5) (h:TrAt 0 w B o T cs v t) (hln:t.made.length≤40000000) (hn:(c.toNat:Int)=n) (g0:194≤n) (g1:n≤223):
 Calls Tryz.prog 214 #[.pointer (some ⟨B,o,none⟩),.int .u8 n] w fun e w'=>e=.returned (.tuple #[])∧TrPost 0 B o T cs v w w' ⟨1,t.made++[c],1,128,191,t.dg,t.code,t.high⟩:=by
 have H:=hid h;have HT:=hid hT;have HN:=hid hn;obtain⟨hh,hI,ho⟩:=h;obtain⟨a,cap,rfl⟩:=row_shape ho;have k0:=blk_cell hh hI.c0;have k1:=blk_cell hh hI.c1;have k2:=blk_cell hh hI.c2;have k3:=blk_cell hh hI.c3;have k4:=blk_cell hh hI.c4;have f0:=blk_free (j:=o) hh;have f1:=blk_free (j:=o+1) hh;have f2:=blk_free (j:=o+2) hh;have f3:=blk_free (j:=o+3) hh;have f4:=blk_free (j:=o+4) hh;have HR0:=hid ((((TrR.start H.out).s2 HT.out 1).s3 HT.out 128).s4 HT.out 191);clear hh hI ho hn hT;obtain⟨i0,hi,hz0,hz1,hz2⟩:=info_parts Tryz.info5;go_enter Tryz.func214,Tryz.ntmps214
 go_upto_region 17 with fail
 obtain⟨cs1,W1,hW1,HR1⟩:∃cs1 W1,((w.setCell ⟨B,o+2,none⟩ (.int .i64 1)).setCell ⟨B,o+3,none⟩ (.int .u8 128)).setCell ⟨B,o+4,none⟩ (.int .u8 191)=W1∧Hid (TrR 0 B o T cs (.slice a t.made.length cap) w cs1 (.slice a t.made.length cap) W1 ⟨t.st,t.made,1,128,191,t.dg,t.code,t.high⟩):=⟨_,_,rfl,HR0⟩;rw[hW1];clear hW1 HR0 k0 k1 k2 k3 k4 f0 f1 f2 f3 f4;have hh:=HR1.out.is.1;have ho:=HR1.out.is.2.2;have k1:=blk_cell hh HR1.out.is.2.1.c1;have f1:=blk_free (j:=o+1) hh;clear hh;simp only at ho
 go_wp2_with (at_builtin;refine wpList_append_d _ rfl _ _ 65 rfl 5 i0 (.int .u8 0) 1 1 Tryz.underlying65 hi hz0 hz1 hz2 rfl (by decide) _ _ _ rfl (ho.alloc _) ⟨W1.heap.size,0,none⟩ 1 1 [.int .u8 n] rfl rfl ?c1 ?c2 ?c3 ?c4 ?_)
 case c1=>exact cell_one_new _ _ _
 case c2=>intro u hu;simp at hu;subst hu;rfl
 case c3=>unfold maxLen;omega
 case c4=>omega
 intro v' w1 hown' hgrow hnew;obtain⟨g',cap',rfl⟩:=row_succ hown';obtain⟨hh1,hR⟩:=HR1.out.grow HT.out hown' hgrow hnew (show us [c]=[.int .u8 n] by rw[us_one,HN.out]) rfl;have q0:=blk_cell hh1 HR1.out.is.2.1.c0;have q1:=blk_cell hh1 HR1.out.is.2.1.c1;have p0:=blk_free (j:=o) hh1;have p1:=blk_free (j:=o+1) hh1;have HR:=hid hR;clear hown' hgrow hnew hh1 hR ho k1 f1;go_wp2;go_end0;have:=HR.out.s0 HT.out 1;exact⟨rfl,_,_,this⟩
theorem sev_b (B o T:Nat) (cs:Array Value) (v:Value) (t:Tr) (c:UInt8) (n:Int) (w:World) (hT:T≠5) (h:TrAt 0 w B o T cs v t) (hln:t.made.length≤40000000) (hn:(c.toNat:Int)=n) (g0:n=224):
 Calls Tryz.prog 214 #[.pointer (some ⟨B,o,none⟩),.int .u8 n] w fun e w'=>e=.returned (.tuple #[])∧TrPost 0 B o T cs v w w' ⟨1,t.made++[c],2,160,191,t.dg,t.code,t.high⟩:=by
 have H:=hid h;have HT:=hid hT;have HN:=hid hn;obtain⟨hh,hI,ho⟩:=h;obtain⟨a,cap,rfl⟩:=row_shape ho;have k0:=blk_cell hh hI.c0;have k1:=blk_cell hh hI.c1;have k2:=blk_cell hh hI.c2;have k3:=blk_cell hh hI.c3;have k4:=blk_cell hh hI.c4;have f0:=blk_free (j:=o) hh;have f1:=blk_free (j:=o+1) hh;have f2:=blk_free (j:=o+2) hh;have f3:=blk_free (j:=o+3) hh;have f4:=blk_free (j:=o+4) hh;have HR0:=hid (((((TrR.start H.out).s2 HT.out 2).s3 HT.out 128).s4 HT.out 191).s3 HT.out 160);clear hh hI ho hn hT;obtain⟨i0,hi,hz0,hz1,hz2⟩:=info_parts Tryz.info5;subst g0;go_enter Tryz.func214,Tryz.ntmps214
 go_upto_region 17 with fail
 obtain⟨cs1,W1,hW1,HR1⟩:∃cs1 W1,(((w.setCell ⟨B,o+2,none⟩ (.int .i64 2)).setCell ⟨B,o+3,none⟩ (.int .u8 128)).setCell ⟨B,o+4,none⟩ (.int .u8 191)).setCell ⟨B,o+3,none⟩ (.int .u8 160)=W1∧Hid (TrR 0 B o T cs (.slice a t.made.length cap) w cs1 (.slice a t.made.length cap) W1 ⟨t.st,t.made,2,160,191,t.dg,t.code,t.high⟩):=⟨_,_,rfl,HR0⟩;rw[hW1];clear hW1 HR0 k0 k1 k2 k3 k4 f0 f1 f2 f3 f4;have hh:=HR1.out.is.1;have ho:=HR1.out.is.2.2;have k1:=blk_cell hh HR1.out.is.2.1.c1;have f1:=blk_free (j:=o+1) hh;clear hh;simp only at ho
 go_wp2_with (at_builtin;refine wpList_append_d _ rfl _ _ 65 rfl 5 i0 (.int .u8 0) 1 1 Tryz.underlying65 hi hz0 hz1 hz2 rfl (by decide) _ _ _ rfl (ho.alloc _) ⟨W1.heap.size,0,none⟩ 1 1 [.int .u8 224] rfl rfl ?c1 ?c2 ?c3 ?c4 ?_)
 case c1=>exact cell_one_new _ _ _
 case c2=>intro u hu;simp at hu;subst hu;rfl
 case c3=>unfold maxLen;omega
 case c4=>omega
 intro v' w1 hown' hgrow hnew;obtain⟨g',cap',rfl⟩:=row_succ hown';obtain⟨hh1,hR⟩:=HR1.out.grow HT.out hown' hgrow hnew (show us [c]=[.int .u8 224] by rw[us_one,HN.out]) rfl;have q0:=blk_cell hh1 HR1.out.is.2.1.c0;have q1:=blk_cell hh1 HR1.out.is.2.1.c1;have p0:=blk_free (j:=o) hh1;have p1:=blk_free (j:=o+1) hh1;have HR:=hid hR;clear hown' hgrow hnew hh1 hR ho k1 f1;go_wp2;go_end0;have:=HR.out.s0 HT.out 1;exact⟨rfl,_,_,this⟩
theorem sev_c (B o T:Nat) (cs:Array Value) (v:Value) (t:Tr) (c:UInt8) (n:Int) (w:World) (hT:T≠5) (h:TrAt 0 w B o T cs v t) (hln:t.made.length≤40000000) (hn:(c.toNat:Int)=n) (g0:225≤n) (g1:n≤236):
 Calls Tryz.prog 214 #[.pointer (some ⟨B,o,none⟩),.int .u8 n] w fun e w'=>e=.returned (.tuple #[])∧TrPost 0 B o T cs v w w' ⟨1,t.made++[c],2,128,191,t.dg,t.code,t.high⟩:=by
 have H:=hid h;have HT:=hid hT;have HN:=hid hn;obtain⟨hh,hI,ho⟩:=h;obtain⟨a,cap,rfl⟩:=row_shape ho;have k0:=blk_cell hh hI.c0;have k1:=blk_cell hh hI.c1;have k2:=blk_cell hh hI.c2;have k3:=blk_cell hh hI.c3;have k4:=blk_cell hh hI.c4;have f0:=blk_free (j:=o) hh;have f1:=blk_free (j:=o+1) hh;have f2:=blk_free (j:=o+2) hh;have f3:=blk_free (j:=o+3) hh;have f4:=blk_free (j:=o+4) hh;have HR0:=hid ((((TrR.start H.out).s2 HT.out 2).s3 HT.out 128).s4 HT.out 191);clear hh hI ho hn hT;obtain⟨i0,hi,hz0,hz1,hz2⟩:=info_parts Tryz.info5;go_enter Tryz.func214,Tryz.ntmps214
 go_upto_region 17 with fail
 obtain⟨cs1,W1,hW1,HR1⟩:∃cs1 W1,((w.setCell ⟨B,o+2,none⟩ (.int .i64 2)).setCell ⟨B,o+3,none⟩ (.int .u8 128)).setCell ⟨B,o+4,none⟩ (.int .u8 191)=W1∧Hid (TrR 0 B o T cs (.slice a t.made.length cap) w cs1 (.slice a t.made.length cap) W1 ⟨t.st,t.made,2,128,191,t.dg,t.code,t.high⟩):=⟨_,_,rfl,HR0⟩;rw[hW1];clear hW1 HR0 k0 k1 k2 k3 k4 f0 f1 f2 f3 f4;have hh:=HR1.out.is.1;have ho:=HR1.out.is.2.2;have k1:=blk_cell hh HR1.out.is.2.1.c1;have f1:=blk_free (j:=o+1) hh;clear hh;simp only at ho
 go_wp2_with (at_builtin;refine wpList_append_d _ rfl _ _ 65 rfl 5 i0 (.int .u8 0) 1 1 Tryz.underlying65 hi hz0 hz1 hz2 rfl (by decide) _ _ _ rfl (ho.alloc _) ⟨W1.heap.size,0,none⟩ 1 1 [.int .u8 n] rfl rfl ?c1 ?c2 ?c3 ?c4 ?_)
 case c1=>exact cell_one_new _ _ _
 case c2=>intro u hu;simp at hu;subst hu;rfl
 case c3=>unfold maxLen;omega
 case c4=>omega
 intro v' w1 hown' hgrow hnew;obtain⟨g',cap',rfl⟩:=row_succ hown';obtain⟨hh1,hR⟩:=HR1.out.grow HT.out hown' hgrow hnew (show us [c]=[.int .u8 n] by rw[us_one,HN.out]) rfl;have q0:=blk_cell hh1 HR1.out.is.2.1.c0;have q1:=blk_cell hh1 HR1.out.is.2.1.c1;have p0:=blk_free (j:=o) hh1;have p1:=blk_free (j:=o+1) hh1;have HR:=hid hR;clear hown' hgrow hnew hh1 hR ho k1 f1;go_wp2;go_end0;have:=HR.out.s0 HT.out 1;exact⟨rfl,_,_,this⟩
theorem sev_d (B o T:Nat) (cs:Array Value) (v:Value) (t:Tr) (c:UInt8) (n:Int) (w:World) (hT:T≠5) (h:TrAt 0 w B o T cs v t) (hln:t.made.length≤40000000) (hn:(c.toNat:Int)=n) (g0:n=237):
 Calls Tryz.prog 214 #[.pointer (some ⟨B,o,none⟩),.int .u8 n] w fun e w'=>e=.returned (.tuple #[])∧TrPost 0 B o T cs v w w' ⟨1,t.made++[c],2,128,159,t.dg,t.code,t.high⟩:=by
 have H:=hid h;have HT:=hid hT;have HN:=hid hn;obtain⟨hh,hI,ho⟩:=h;obtain⟨a,cap,rfl⟩:=row_shape ho;have k0:=blk_cell hh hI.c0;have k1:=blk_cell hh hI.c1;have k2:=blk_cell hh hI.c2;have k3:=blk_cell hh hI.c3;have k4:=blk_cell hh hI.c4;have f0:=blk_free (j:=o) hh;have f1:=blk_free (j:=o+1) hh;have f2:=blk_free (j:=o+2) hh;have f3:=blk_free (j:=o+3) hh;have f4:=blk_free (j:=o+4) hh;have HR0:=hid (((((TrR.start H.out).s2 HT.out 2).s3 HT.out 128).s4 HT.out 191).s4 HT.out 159);clear hh hI ho hn hT;obtain⟨i0,hi,hz0,hz1,hz2⟩:=info_parts Tryz.info5;subst g0;go_enter Tryz.func214,Tryz.ntmps214
 go_upto_region 17 with fail
 obtain⟨cs1,W1,hW1,HR1⟩:∃cs1 W1,(((w.setCell ⟨B,o+2,none⟩ (.int .i64 2)).setCell ⟨B,o+3,none⟩ (.int .u8 128)).setCell ⟨B,o+4,none⟩ (.int .u8 191)).setCell ⟨B,o+4,none⟩ (.int .u8 159)=W1∧Hid (TrR 0 B o T cs (.slice a t.made.length cap) w cs1 (.slice a t.made.length cap) W1 ⟨t.st,t.made,2,128,159,t.dg,t.code,t.high⟩):=⟨_,_,rfl,HR0⟩;rw[hW1];clear hW1 HR0 k0 k1 k2 k3 k4 f0 f1 f2 f3 f4;have hh:=HR1.out.is.1;have ho:=HR1.out.is.2.2;have k1:=blk_cell hh HR1.out.is.2.1.c1;have f1:=blk_free (j:=o+1) hh;clear hh;simp only at ho
 go_wp2_with (at_builtin;refine wpList_append_d _ rfl _ _ 65 rfl 5 i0 (.int .u8 0) 1 1 Tryz.underlying65 hi hz0 hz1 hz2 rfl (by decide) _ _ _ rfl (ho.alloc _) ⟨W1.heap.size,0,none⟩ 1 1 [.int .u8 237] rfl rfl ?c1 ?c2 ?c3 ?c4 ?_)
 case c1=>exact cell_one_new _ _ _
 case c2=>intro u hu;simp at hu;subst hu;rfl
 case c3=>unfold maxLen;omega
 case c4=>omega
 intro v' w1 hown' hgrow hnew;obtain⟨g',cap',rfl⟩:=row_succ hown';obtain⟨hh1,hR⟩:=HR1.out.grow HT.out hown' hgrow hnew (show us [c]=[.int .u8 237] by rw[us_one,HN.out]) rfl;have q0:=blk_cell hh1 HR1.out.is.2.1.c0;have q1:=blk_cell hh1 HR1.out.is.2.1.c1;have p0:=blk_free (j:=o) hh1;have p1:=blk_free (j:=o+1) hh1;have HR:=hid hR;clear hown' hgrow hnew hh1 hR ho k1 f1;go_wp2;go_end0;have:=HR.out.s0 HT.out 1;exact⟨rfl,_,_,this⟩
theorem sev_e (B o T:Nat) (cs:Array Value) (v:Value) (t:Tr) (c:UInt8) (n:Int) (w:World) (hT:T≠5) (h:TrAt 0 w B o T cs v t) (hln:t.made.length≤40000000) (hn:(c.toNat:Int)=n) (g0:238≤n) (g1:n≤239):
 Calls Tryz.prog 214 #[.pointer (some ⟨B,o,none⟩),.int .u8 n] w fun e w'=>e=.returned (.tuple #[])∧TrPost 0 B o T cs v w w' ⟨1,t.made++[c],2,128,191,t.dg,t.code,t.high⟩:=by
 have H:=hid h;have HT:=hid hT;have HN:=hid hn;obtain⟨hh,hI,ho⟩:=h;obtain⟨a,cap,rfl⟩:=row_shape ho;have k0:=blk_cell hh hI.c0;have k1:=blk_cell hh hI.c1;have k2:=blk_cell hh hI.c2;have k3:=blk_cell hh hI.c3;have k4:=blk_cell hh hI.c4;have f0:=blk_free (j:=o) hh;have f1:=blk_free (j:=o+1) hh;have f2:=blk_free (j:=o+2) hh;have f3:=blk_free (j:=o+3) hh;have f4:=blk_free (j:=o+4) hh;have HR0:=hid ((((TrR.start H.out).s2 HT.out 2).s3 HT.out 128).s4 HT.out 191);clear hh hI ho hn hT;obtain⟨i0,hi,hz0,hz1,hz2⟩:=info_parts Tryz.info5;go_enter Tryz.func214,Tryz.ntmps214
 go_upto_region 17 with fail
 obtain⟨cs1,W1,hW1,HR1⟩:∃cs1 W1,((w.setCell ⟨B,o+2,none⟩ (.int .i64 2)).setCell ⟨B,o+3,none⟩ (.int .u8 128)).setCell ⟨B,o+4,none⟩ (.int .u8 191)=W1∧Hid (TrR 0 B o T cs (.slice a t.made.length cap) w cs1 (.slice a t.made.length cap) W1 ⟨t.st,t.made,2,128,191,t.dg,t.code,t.high⟩):=⟨_,_,rfl,HR0⟩;rw[hW1];clear hW1 HR0 k0 k1 k2 k3 k4 f0 f1 f2 f3 f4;have hh:=HR1.out.is.1;have ho:=HR1.out.is.2.2;have k1:=blk_cell hh HR1.out.is.2.1.c1;have f1:=blk_free (j:=o+1) hh;clear hh;simp only at ho
 go_wp2_with (at_builtin;refine wpList_append_d _ rfl _ _ 65 rfl 5 i0 (.int .u8 0) 1 1 Tryz.underlying65 hi hz0 hz1 hz2 rfl (by decide) _ _ _ rfl (ho.alloc _) ⟨W1.heap.size,0,none⟩ 1 1 [.int .u8 n] rfl rfl ?c1 ?c2 ?c3 ?c4 ?_)
 case c1=>exact cell_one_new _ _ _
 case c2=>intro u hu;simp at hu;subst hu;rfl
 case c3=>unfold maxLen;omega
 case c4=>omega
 intro v' w1 hown' hgrow hnew;obtain⟨g',cap',rfl⟩:=row_succ hown';obtain⟨hh1,hR⟩:=HR1.out.grow HT.out hown' hgrow hnew (show us [c]=[.int .u8 n] by rw[us_one,HN.out]) rfl;have q0:=blk_cell hh1 HR1.out.is.2.1.c0;have q1:=blk_cell hh1 HR1.out.is.2.1.c1;have p0:=blk_free (j:=o) hh1;have p1:=blk_free (j:=o+1) hh1;have HR:=hid hR;clear hown' hgrow hnew hh1 hR ho k1 f1;go_wp2;go_end0;have:=HR.out.s0 HT.out 1;exact⟨rfl,_,_,this⟩
theorem sev_f (B o T:Nat) (cs:Array Value) (v:Value) (t:Tr) (c:UInt8) (n:Int) (w:World) (hT:T≠5) (h:TrAt 0 w B o T cs v t) (hln:t.made.length≤40000000) (hn:(c.toNat:Int)=n) (g0:n=240):
 Calls Tryz.prog 214 #[.pointer (some ⟨B,o,none⟩),.int .u8 n] w fun e w'=>e=.returned (.tuple #[])∧TrPost 0 B o T cs v w w' ⟨1,t.made++[c],3,144,191,t.dg,t.code,t.high⟩:=by
 have H:=hid h;have HT:=hid hT;have HN:=hid hn;obtain⟨hh,hI,ho⟩:=h;obtain⟨a,cap,rfl⟩:=row_shape ho;have k0:=blk_cell hh hI.c0;have k1:=blk_cell hh hI.c1;have k2:=blk_cell hh hI.c2;have k3:=blk_cell hh hI.c3;have k4:=blk_cell hh hI.c4;have f0:=blk_free (j:=o) hh;have f1:=blk_free (j:=o+1) hh;have f2:=blk_free (j:=o+2) hh;have f3:=blk_free (j:=o+3) hh;have f4:=blk_free (j:=o+4) hh;have HR0:=hid (((((TrR.start H.out).s2 HT.out 3).s3 HT.out 128).s4 HT.out 191).s3 HT.out 144);clear hh hI ho hn hT;obtain⟨i0,hi,hz0,hz1,hz2⟩:=info_parts Tryz.info5;subst g0;go_enter Tryz.func214,Tryz.ntmps214
 go_upto_region 17 with fail
 obtain⟨cs1,W1,hW1,HR1⟩:∃cs1 W1,(((w.setCell ⟨B,o+2,none⟩ (.int .i64 3)).setCell ⟨B,o+3,none⟩ (.int .u8 128)).setCell ⟨B,o+4,none⟩ (.int .u8 191)).setCell ⟨B,o+3,none⟩ (.int .u8 144)=W1∧Hid (TrR 0 B o T cs (.slice a t.made.length cap) w cs1 (.slice a t.made.length cap) W1 ⟨t.st,t.made,3,144,191,t.dg,t.code,t.high⟩):=⟨_,_,rfl,HR0⟩;rw[hW1];clear hW1 HR0 k0 k1 k2 k3 k4 f0 f1 f2 f3 f4;have hh:=HR1.out.is.1;have ho:=HR1.out.is.2.2;have k1:=blk_cell hh HR1.out.is.2.1.c1;have f1:=blk_free (j:=o+1) hh;clear hh;simp only at ho
 go_wp2_with (at_builtin;refine wpList_append_d _ rfl _ _ 65 rfl 5 i0 (.int .u8 0) 1 1 Tryz.underlying65 hi hz0 hz1 hz2 rfl (by decide) _ _ _ rfl (ho.alloc _) ⟨W1.heap.size,0,none⟩ 1 1 [.int .u8 240] rfl rfl ?c1 ?c2 ?c3 ?c4 ?_)
 case c1=>exact cell_one_new _ _ _
 case c2=>intro u hu;simp at hu;subst hu;rfl
 case c3=>unfold maxLen;omega
 case c4=>omega
 intro v' w1 hown' hgrow hnew;obtain⟨g',cap',rfl⟩:=row_succ hown';obtain⟨hh1,hR⟩:=HR1.out.grow HT.out hown' hgrow hnew (show us [c]=[.int .u8 240] by rw[us_one,HN.out]) rfl;have q0:=blk_cell hh1 HR1.out.is.2.1.c0;have q1:=blk_cell hh1 HR1.out.is.2.1.c1;have p0:=blk_free (j:=o) hh1;have p1:=blk_free (j:=o+1) hh1;have HR:=hid hR;clear hown' hgrow hnew hh1 hR ho k1 f1;go_wp2;go_end0;have:=HR.out.s0 HT.out 1;exact⟨rfl,_,_,this⟩
theorem sev_g (B o T:Nat) (cs:Array Value) (v:Value) (t:Tr) (c:UInt8) (n:Int) (w:World) (hT:T≠5) (h:TrAt 0 w B o T cs v t) (hln:t.made.length≤40000000) (hn:(c.toNat:Int)=n) (g0:241≤n) (g1:n≤243):
 Calls Tryz.prog 214 #[.pointer (some ⟨B,o,none⟩),.int .u8 n] w fun e w'=>e=.returned (.tuple #[])∧TrPost 0 B o T cs v w w' ⟨1,t.made++[c],3,128,191,t.dg,t.code,t.high⟩:=by
 have H:=hid h;have HT:=hid hT;have HN:=hid hn;obtain⟨hh,hI,ho⟩:=h;obtain⟨a,cap,rfl⟩:=row_shape ho;have k0:=blk_cell hh hI.c0;have k1:=blk_cell hh hI.c1;have k2:=blk_cell hh hI.c2;have k3:=blk_cell hh hI.c3;have k4:=blk_cell hh hI.c4;have f0:=blk_free (j:=o) hh;have f1:=blk_free (j:=o+1) hh;have f2:=blk_free (j:=o+2) hh;have f3:=blk_free (j:=o+3) hh;have f4:=blk_free (j:=o+4) hh;have HR0:=hid ((((TrR.start H.out).s2 HT.out 3).s3 HT.out 128).s4 HT.out 191);clear hh hI ho hn hT;obtain⟨i0,hi,hz0,hz1,hz2⟩:=info_parts Tryz.info5;go_enter Tryz.func214,Tryz.ntmps214
 go_upto_region 17 with fail
 obtain⟨cs1,W1,hW1,HR1⟩:∃cs1 W1,((w.setCell ⟨B,o+2,none⟩ (.int .i64 3)).setCell ⟨B,o+3,none⟩ (.int .u8 128)).setCell ⟨B,o+4,none⟩ (.int .u8 191)=W1∧Hid (TrR 0 B o T cs (.slice a t.made.length cap) w cs1 (.slice a t.made.length cap) W1 ⟨t.st,t.made,3,128,191,t.dg,t.code,t.high⟩):=⟨_,_,rfl,HR0⟩;rw[hW1];clear hW1 HR0 k0 k1 k2 k3 k4 f0 f1 f2 f3 f4;have hh:=HR1.out.is.1;have ho:=HR1.out.is.2.2;have k1:=blk_cell hh HR1.out.is.2.1.c1;have f1:=blk_free (j:=o+1) hh;clear hh;simp only at ho
 go_wp2_with (at_builtin;refine wpList_append_d _ rfl _ _ 65 rfl 5 i0 (.int .u8 0) 1 1 Tryz.underlying65 hi hz0 hz1 hz2 rfl (by decide) _ _ _ rfl (ho.alloc _) ⟨W1.heap.size,0,none⟩ 1 1 [.int .u8 n] rfl rfl ?c1 ?c2 ?c3 ?c4 ?_)
 case c1=>exact cell_one_new _ _ _
 case c2=>intro u hu;simp at hu;subst hu;rfl
 case c3=>unfold maxLen;omega
 case c4=>omega
 intro v' w1 hown' hgrow hnew;obtain⟨g',cap',rfl⟩:=row_succ hown';obtain⟨hh1,hR⟩:=HR1.out.grow HT.out hown' hgrow hnew (show us [c]=[.int .u8 n] by rw[us_one,HN.out]) rfl;have q0:=blk_cell hh1 HR1.out.is.2.1.c0;have q1:=blk_cell hh1 HR1.out.is.2.1.c1;have p0:=blk_free (j:=o) hh1;have p1:=blk_free (j:=o+1) hh1;have HR:=hid hR;clear hown' hgrow hnew hh1 hR ho k1 f1;go_wp2;go_end0;have:=HR.out.s0 HT.out 1;exact⟨rfl,_,_,this⟩
theorem sev_h (B o T:Nat) (cs:Array Value) (v:Value) (t:Tr) (c:UInt8) (n:Int) (w:World) (hT:T≠5) (h:TrAt 0 w B o T cs v t) (hln:t.made.length≤40000000) (hn:(c.toNat:Int)=n) (g0:n=244):
 Calls Tryz.prog 214 #[.pointer (some ⟨B,o,none⟩),.int .u8 n] w fun e w'=>e=.returned (.tuple #[])∧TrPost 0 B o T cs v w w' ⟨1,t.made++[c],3,128,143,t.dg,t.code,t.high⟩:=by
 have H:=hid h;have HT:=hid hT;have HN:=hid hn;obtain⟨hh,hI,ho⟩:=h;obtain⟨a,cap,rfl⟩:=row_shape ho;have k0:=blk_cell hh hI.c0;have k1:=blk_cell hh hI.c1;have k2:=blk_cell hh hI.c2;have k3:=blk_cell hh hI.c3;have k4:=blk_cell hh hI.c4;have f0:=blk_free (j:=o) hh;have f1:=blk_free (j:=o+1) hh;have f2:=blk_free (j:=o+2) hh;have f3:=blk_free (j:=o+3) hh;have f4:=blk_free (j:=o+4) hh;have HR0:=hid (((((TrR.start H.out).s2 HT.out 3).s3 HT.out 128).s4 HT.out 191).s4 HT.out 143);clear hh hI ho hn hT;obtain⟨i0,hi,hz0,hz1,hz2⟩:=info_parts Tryz.info5;subst g0;go_enter Tryz.func214,Tryz.ntmps214
 go_upto_region 17 with fail
 obtain⟨cs1,W1,hW1,HR1⟩:∃cs1 W1,(((w.setCell ⟨B,o+2,none⟩ (.int .i64 3)).setCell ⟨B,o+3,none⟩ (.int .u8 128)).setCell ⟨B,o+4,none⟩ (.int .u8 191)).setCell ⟨B,o+4,none⟩ (.int .u8 143)=W1∧Hid (TrR 0 B o T cs (.slice a t.made.length cap) w cs1 (.slice a t.made.length cap) W1 ⟨t.st,t.made,3,128,143,t.dg,t.code,t.high⟩):=⟨_,_,rfl,HR0⟩;rw[hW1];clear hW1 HR0 k0 k1 k2 k3 k4 f0 f1 f2 f3 f4;have hh:=HR1.out.is.1;have ho:=HR1.out.is.2.2;have k1:=blk_cell hh HR1.out.is.2.1.c1;have f1:=blk_free (j:=o+1) hh;clear hh;simp only at ho
 go_wp2_with (at_builtin;refine wpList_append_d _ rfl _ _ 65 rfl 5 i0 (.int .u8 0) 1 1 Tryz.underlying65 hi hz0 hz1 hz2 rfl (by decide) _ _ _ rfl (ho.alloc _) ⟨W1.heap.size,0,none⟩ 1 1 [.int .u8 244] rfl rfl ?c1 ?c2 ?c3 ?c4 ?_)
 case c1=>exact cell_one_new _ _ _
 case c2=>intro u hu;simp at hu;subst hu;rfl
 case c3=>unfold maxLen;omega
 case c4=>omega
 intro v' w1 hown' hgrow hnew;obtain⟨g',cap',rfl⟩:=row_succ hown';obtain⟨hh1,hR⟩:=HR1.out.grow HT.out hown' hgrow hnew (show us [c]=[.int .u8 244] by rw[us_one,HN.out]) rfl;have q0:=blk_cell hh1 HR1.out.is.2.1.c0;have q1:=blk_cell hh1 HR1.out.is.2.1.c1;have p0:=blk_free (j:=o) hh1;have p1:=blk_free (j:=o+1) hh1;have HR:=hid hR;clear hown' hgrow hnew hh1 hR ho k1 f1;go_wp2;go_end0;have:=HR.out.s0 HT.out 1;exact⟨rfl,_,_,this⟩
theorem sev_no (B o:Nat) (n:Int) (w:World) (h:n<194∨244<n):Calls Tryz.prog 214 #[.pointer (some ⟨B,o,none⟩),.int .u8 n] w fun e w'=>e=gave 2∧w'=w:=by
 rcases h with h|h
 all_goals
  go_enter Tryz.func214,Tryz.ntmps214;go_wp2;exact⟨rfl,rfl,rfl⟩
theorem trSev_any (B o T:Nat) (cs:Array Value) (v:Value) (t:Tr) (k:Nat) (c:UInt8) (w:World) (hT:T≠5) (h:TrAt 0 w B o T cs v t) (hok:TrOk t k) (hk:k≤10000000):
 Calls Tryz.prog 214 #[.pointer (some ⟨B,o,none⟩),.int .u8 (c.toNat:Int)] w fun e w'=>match trSev t c with
  |.ok t'=>e=.returned (.tuple #[])∧TrPost 0 B o T cs v w w' t'
  |.error n=>e=gave n∧w'=w:=by
 have hln:t.made.length≤40000000:=by have:=hok.len;omega
 unfold trSev;by_cases hin:194≤c.toNat∧c.toNat≤244
 ·rw[if_pos hin]
  simp only;obtain⟨h1,h2⟩:=hin;by_cases a1:c.toNat≤223
  ·rw[if_pos a1,if_neg (by omega),if_neg (by omega),if_neg (by omega),if_neg (by omega)]
   exact sev_a B o T cs v t c _ w hT h hln rfl (by omega) (by omega)
  rw[if_neg a1];by_cases a2:c.toNat=224
  ·rw[if_pos (by omega),if_pos a2,if_neg (by omega),if_neg (by omega)]
   exact sev_b B o T cs v t c _ w hT h hln rfl (by omega)
  rw[if_neg a2];by_cases a3:c.toNat≤236
  ·rw[if_pos (by omega),if_neg (by omega),if_neg (by omega),if_neg (by omega)]
   exact sev_c B o T cs v t c _ w hT h hln rfl (by omega) (by omega)
  by_cases a4:c.toNat=237
  ·rw[if_pos (by omega),if_neg (by omega),if_pos a4]
   exact sev_d B o T cs v t c _ w hT h hln rfl (by omega)
  rw[if_neg a4];by_cases a5:c.toNat≤239
  ·rw[if_pos a5,if_neg (by omega),if_neg (by omega)]
   exact sev_e B o T cs v t c _ w hT h hln rfl (by omega) (by omega)
  rw[if_neg a5];by_cases a6:c.toNat=240
  ·rw[if_pos a6,if_neg (by omega)]
   exact sev_f B o T cs v t c _ w hT h hln rfl (by omega)
  rw[if_neg a6];by_cases a7:c.toNat=244
  ·rw[if_pos a7]
   exact sev_h B o T cs v t c _ w hT h hln rfl (by omega)
  ·rw[if_neg a7]
   exact sev_g B o T cs v t c _ w hT h hln rfl (by omega) (by omega)
 ·rw[if_neg hin]
  exact sev_no B o _ w (by omega)
theorem step_append_d {P:Program} {ops:Array Oper} {o:Oper} {a:Act} {w:World} {K:Act→World→Prop} {Q:Exit→Act→World→Prop} {E:Prop}
 (hg:o.guard=none) (s x:Operand) (t:TypeId) (hop:o.op=Op.call {callee:=Callee.builtin Builtin.append,args:=#[s,x],argTypes:=#[t,t]})
 (e:TypeId) (i:TypeInfo) (z:Value) (size bytes:Nat) (h1:P.underlying t=some (.slice e)) (h2:P.info? e=some i) (h3:i.zero=some z) (h4:i.size=size) (h5:i.bytes=bytes) (h6:z.cells.size=size) (h7:0<size)
 (v:Value) (n:Nat) (xs:List Value) (hs:a.eval s=v) (hown:w.ownsRow 0 e size v n xs)
 (ad:Addr) (m c:Nat) (news:List Value) (hx:a.eval x=.slice (some ad) m c) (hn:news.length=m*size) (hc:∀j u,news[j]? =some u→w.cell? (ad.add j)=some u) (h1c:∀u∈news,u.oneCell'=true)
 (b1:n+m≤maxLen) (b2:(n+m)*bytes≤140737488355328)
 (hK:∀v' w',w'.ownsRow 0 e size v' (n+m) (xs++news)→w.grownBy w' v.ownBlock→(∀g',v'.ownBlock=some g'→v.ownBlock=some g'∨w.heap.size≤g')→K (a.put o.dst v') w'):
 if Region.wanted o (yielded ops a.tmps)=true then Oper.wp P o a w K Q else E:=by
 have hw:Region.wanted o (yielded ops a.tmps)=true:=by simp[Region.wanted,hg]
 rw[if_pos hw];obtain⟨v',w',hr,h2,h3,h4⟩:=run_append_d (P:=P) w t o.type e i z size bytes h1 h2 h3 h4 h5 h6 h7 v n xs hown ad m c news hn hc h1c b1 b2;unfold Oper.wp;simp[execOp,hop,resolve,invoke,builtin,hs,hx,hr,Result.andThen];exact hK v' w' h2 h3 h4
theorem esc_no (B o T:Nat) (cs:Array Value) (v:Value) (t:Tr) (c:UInt8) (w:World) (h:TrAt 0 w B o T cs v t) (hu:((c.toNat:Int)==117)=false) (hh0:((t.high:Int)==0)=true) (he:escV c=none):
 Calls Tryz.prog 183 #[.pointer (some ⟨B,o,none⟩),.int .u8 (c.toNat:Int)] w fun e w'=>e=gave 3∧Fr (fun _=>False) w w':=by
 obtain⟨hh,hI,ho⟩:=h;obtain⟨a,cap,rfl⟩:=row_shape ho;have k1:=blk_cell hh hI.c1;have k7:=blk_cell hh hI.c7;have HC:=hid (fun w=>escaped_any c w);rw[he]at HC;simp only at HC;clear hh hI ho he;go_enter Tryz.func183,Tryz.ntmps183;go_wp2
 go_region_dies
 all_goals
  refine Calls.mono (HC.out _) ?_;rintro e w2 ⟨rfl,rfl⟩;exact⟨rfl,rfl,(Fr.refl _ _).drew⟩
theorem esc_yes (B o T:Nat) (cs:Array Value) (v:Value) (t:Tr) (c x:UInt8) (w:World) (hT:T≠5) (h:TrAt 0 w B o T cs v t) (hln:t.made.length≤40000000) (hu:((c.toNat:Int)==117)=false) (hh0:((t.high:Int)==0)=true) (he:escV c=some x):
 Calls Tryz.prog 183 #[.pointer (some ⟨B,o,none⟩),.int .u8 (c.toNat:Int)] w fun e w'=>e=.returned (.tuple #[])∧TrPost 0 B o T cs v w w' ⟨0,t.made++[x],t.lack,t.lo,t.hi,t.dg,t.code,t.high⟩:=by
 have H:=hid h;have HT:=hid hT;obtain⟨hh,hI,ho⟩:=h;obtain⟨a,cap,rfl⟩:=row_shape ho;have k1:=blk_cell hh hI.c1;have k7:=blk_cell hh hI.c7;have HI:=hid hI;have HC:=hid (fun w=>escaped_any c w);rw[he]at HC;simp only at HC;obtain⟨i0,hi,hz0,hz1,hz2⟩:=info_parts Tryz.info5;have HO:=hid (show(w.drew).ownsRow 0 5 1 (.slice a t.made.length cap) t.made.length (us t.made)from ho);have H0:=hid (show TrR 0 B o T cs (.slice a t.made.length cap) w cs (.slice a t.made.length cap) w.drew t from⟨H.out,ApartR.refl _ _,(Fr.refl _ _).drew,fun _ h=>.inl h⟩);have kd:=(show w.drew.cell? ⟨B,o+1,none⟩=some (.slice a t.made.length cap)from k1);have fd:=(show w.drew.frozen? ⟨B,o+1,none⟩=false from blk_free (j:=o+1) hh);have hBl:=lt_of_block hh;have ka:∀ob,(w.alloc ob).cell? ⟨B,o+1,none⟩=some (.slice a t.made.length cap):=fun ob=>(World.cell?_of_block (w:=w) (Below.heap_alloc _ _ _ hBl)).trans k1
 clear hh hI ho he hT hBl;go_enter Tryz.func183,Tryz.ntmps183;go_wp2
 go_region_law (first
  |(refine step_append_d rfl _ _ 65 rfl 5 i0 (.int .u8 0) 1 1 Tryz.underlying65 hi hz0 hz1 hz2 rfl (by decide) (.slice a t.made.length cap) _ _ rfl (HO.out.alloc _) ⟨w.drew.heap.size,0,none⟩ 1 1 [.int .u8 (x.toNat:Int)] rfl rfl (cell_one_new _ _ _) (by intro u hu;simp at hu;subst hu;rfl) (by unfold maxLen;omega) (by omega) ?_;intro v' w1 hown' hgrow hnew;obtain⟨g',cap',rfl⟩:=row_succ hown';obtain⟨hh1,hR⟩:=H0.out.grow HT.out hown' hgrow (by simpa using hnew) (us_one x) rfl;have q0:=blk_cell hh1 HI.out.c0;have q1:=blk_cell hh1 HI.out.c1;have p0:=blk_free (j:=o) hh1;have p1:=blk_free (j:=o+1) hh1;have HR:=hid hR;clear hown' hgrow hnew hh1 hR)
  |(go_simp;go_at_call 211;refine Calls.mono (HC.out _) ?_;rintro e w2 ⟨rfl,rfl⟩))
 all_goals
  go_wp2;go_end0;have:=HR.out.s0 HT.out 0;exact⟨rfl,_,_,this⟩
theorem trEsc_any (B o T:Nat) (cs:Array Value) (v:Value) (t:Tr) (k:Nat) (c:UInt8) (w:World) (hT:T≠5) (h:TrAt 0 w B o T cs v t) (hok:TrOk t k) (hk:k≤10000000):
 Calls Tryz.prog 183 #[.pointer (some ⟨B,o,none⟩),.int .u8 (c.toNat:Int)] w fun e w'=>match trEsc t c with
  |.ok t'=>e=.returned (.tuple #[])∧TrPost 0 B o T cs v w w' t'
  |.error n=>e=gave n∧Fr (fun _=>False) w w':=by
 have hln:t.made.length≤40000000:=by have:=hok.len;omega
 unfold trEsc;by_cases hu:c=117
 ·rw[if_pos hu]
  simp only;have H:=hid h;have HT:=hid hT;obtain⟨hh,hI,ho⟩:=h;have q0:=blk_cell hh hI.c0;have q5:=blk_cell hh hI.c5;have q6:=blk_cell hh hI.c6;have p0:=blk_free (j:=o) hh;have p5:=blk_free (j:=o+5) hh;have p6:=blk_free (j:=o+6) hh;subst hu;clear hh hI ho hT
  show Calls Tryz.prog 183 #[.pointer (some ⟨B,o,none⟩),.int .u8 (117:Int)] w _
  go_enter Tryz.func183,Tryz.ntmps183;go_wp2;go_end0;have:=(((TrR.start H.out).s5 HT.out 0).s6 HT.out 0).s0 HT.out 3;exact⟨rfl,_,_,this⟩
 ·rw[if_neg hu]
  have hq:((c.toNat:Int)==117)=false:=beq_eq_false_iff_ne.2 (by have:=toNat_neP hu;simp at this;omega);by_cases hh0:t.high≠0
  ·rw[if_pos hh0]
   simp only;have q7:=blk_cell h.1 h.2.1.c7;have hx:((t.high:Int)==0)=false:=beq_eq_false_iff_ne.2 (by omega);have hx2:((t.high:Int)!=0)=true:=bne_iff_ne.2 (by omega);clear h hu hh0;go_enter Tryz.func183,Tryz.ntmps183;go_wp2;exact⟨rfl,rfl,Fr.refl _ _⟩
  ·rw[if_neg hh0]
   have hx:((t.high:Int)==0)=true:=beq_iff_eq.2 (by omega);cases he:escV c with
   |none=>exact esc_no B o T cs v t c w h hq hx he
   |some x=>exact esc_yes B o T cs v t c x w hT h hln hq hx he
theorem TrR.rune {base B o T:Nat} {cs0 cs:Array Value} {v0 v v':Value} {w0 W w1:World} {t:Tr} {e:List UInt8} (hT:T≠5) (h:TrR base B o T cs0 v0 w0 cs v W t)
 (hown:w1.ownsRow base 5 1 v' (t.made++e).length (us (t.made++e))) (hF:Fr (fun i=>v.ownBlock=some i) W w1) (hn:∀g,v'.ownBlock=some g→v.ownBlock=some g∨W.heap.size≤g):
 w1.heap[B]? =some (.cells cs T (0,0))∧TrR base B o T cs0 v0 w0 (cs.setIfInBounds (o+1) v') v' (w1.setCell ⟨B,o+1,none⟩ v') ⟨t.st,t.made++e,t.lack,t.lo,t.hi,t.dg,t.code,t.high⟩:=by
 obtain⟨⟨a,b,c⟩,d,f,ow⟩:=h;have hro:=row_other c a hT;have hh:w1.heap[B]? =some (.cells cs T (0,0)):=hF.heap a (fun h=>hro h);have hs:=b.size;have hro1:=row_other hown hh hT;have hfs:=f.size;refine⟨hh,⟨heap_setCell_same w1 B (o+1) cs T v' hh,⟨by rw[set_get_ne (by omega)];exact b.c0,get_setP (by omega),by rw[set_get_ne (by omega)];exact b.c2,by rw[set_get_ne (by omega)];exact b.c3,by rw[set_get_ne (by omega)];exact b.c4,by rw[set_get_ne (by omega)];exact b.c5,by rw[set_get_ne (by omega)];exact b.c6,by rw[set_get_ne (by omega)];exact b.c7⟩,ownsRow_setCell_other hown (a:=⟨B,o+1,none⟩) hro1 v'⟩,d.set 1 (by omega) _,?_,?_⟩
 ·refine(f.trans' hF ?_).setCell (.inl (.inl rfl)) _
  intro i hi;rcases ow i hi with h|h
  ·exact .inl (.inr h)
  ·exact .inr h
 ·intro g hg'
  rcases hn g hg' with h|h
  ·exact ow g h
  ·exact .inr (by omega)
theorem row_shape3 {w:World} {base e size n:Nat} {v:Value} {xs:List Value} (h:w.ownsRow base e size v n xs):∃a m c,v=.slice a m c:=by
 rcases h.2 with⟨h,_⟩|⟨g,c,cur,h,_⟩
 ·exact⟨_,_,_,h⟩
 ·exact⟨_,_,_,h⟩
theorem end_b (B o T:Nat) (cs:Array Value) (v:Value) (t:Tr) (w:World) (hT:T≠5) (h:TrAt 0 w B o T cs v t) (hh0:t.high=0) (h1:55296≤t.code) (h2:t.code<56320):
 Calls Tryz.prog 213 #[.pointer (some ⟨B,o,none⟩)] w fun e w'=>e=.returned (.tuple #[])∧TrPost 0 B o T cs v w w' ⟨0,t.made,t.lack,t.lo,t.hi,t.dg,t.code,t.code⟩:=by
 have H:=hid h;have HT:=hid hT;obtain⟨hh,hI,ho⟩:=h;have q0:=blk_cell hh hI.c0;have q6:=blk_cell hh hI.c6;have q7:=blk_cell hh hI.c7;rw[hh0]at q7;have p0:=blk_free (j:=o) hh;have p7:=blk_free (j:=o+7) hh;have g1:(55296:Int)≤(t.code:Int):=by omega
 have g2:(t.code:Int)<56320:=by omega
 clear hh hI ho hT hh0 h1 h2;go_enter Tryz.func213,Tryz.ntmps213;go_wp2;go_end0;have:=((TrR.start H.out).s7 HT.out t.code).s0 HT.out 0;exact⟨rfl,_,_,this⟩
theorem end_c (B o T:Nat) (cs:Array Value) (v:Value) (t:Tr) (w:World) (hT:T≠5) (h:TrAt 0 w B o T cs v t) (hln:t.made.length≤40000000) (hh0:t.high=0) (h1:t.code<55296∨(57344≤t.code∧t.code<65536)):
 Calls Tryz.prog 213 #[.pointer (some ⟨B,o,none⟩)] w fun e w'=>e=.returned (.tuple #[])∧TrPost 0 B o T cs v w w' ⟨0,t.made++encR t.code,t.lack,t.lo,t.hi,t.dg,t.code,t.high⟩:=by
 have HT:=hid hT;have H0:=hid (show TrR 0 B o T cs v w cs v w.drew t from⟨h,ApartR.refl _ _,(Fr.refl _ _).drew,fun _ h=>.inl h⟩);obtain⟨hh,hI,ho⟩:=h;have HR:=hid (fun w ho=>rune_any v t.made t.code w ho (by omega) (by omega));have HO:=hid ho;obtain⟨a,cap,rfl⟩:=row_shape ho;have q1:=blk_cell hh hI.c1;have q6:=blk_cell hh hI.c6;have q7:=blk_cell hh hI.c7;rw[hh0]at q7;have HI:=hid hI;obtain⟨R,hR⟩:∃R:Int,(t.code:Int)=R:=⟨_,rfl⟩;have hg:R<55296∨(57344≤R∧R<65536):=by omega
 have hR0:0≤R:=by omega
 rw[hR]at q6 HR;clear hh hI ho hT hh0 h1 hR;rcases hg with g1|⟨g1,g2⟩
 all_goals
  go_enter Tryz.func213,Tryz.ntmps213;go_wp2
  go_region_with (go_at_call 172;refine Calls.mono (HR.out _ HO.out) ?_;rintro e w2 ⟨v2,rfl,hown,hF,hnew⟩;obtain⟨hh1,hR⟩:=H0.out.rune HT.out hown hF hnew;obtain⟨a2,n2,cap2,rfl⟩:=row_shape3 hown;have r1:=blk_cell hh1 HI.out.c1;have r0:=blk_cell hh1 HI.out.c0;have s0:=blk_free (j:=o) hh1;have s1:=blk_free (j:=o+1) hh1;have HRR:=hid hR;clear hown hF hnew hh1 hR)
 all_goals
  go_wp2;go_end0;have:=HRR.out.s0 HT.out 0;exact⟨rfl,_,_,this⟩
theorem end_a (B o T:Nat) (cs:Array Value) (v:Value) (t:Tr) (w:World) (hT:T≠5) (h:TrAt 0 w B o T cs v t) (hln:t.made.length≤40000000) (h1:55296≤t.high) (h2:t.high<56320) (h3:56320≤t.code) (h4:t.code<57344):
 Calls Tryz.prog 213 #[.pointer (some ⟨B,o,none⟩)] w fun e w'=>e=.returned (.tuple #[])∧TrPost 0 B o T cs v w w' ⟨0,t.made++encR (65536+(t.high-55296)*1024+(t.code-56320)),t.lack,t.lo,t.hi,t.dg,t.code,0⟩:=by
 have HT:=hid hT;have H0:=hid (show TrR 0 B o T cs v w cs v w.drew t from⟨h,ApartR.refl _ _,(Fr.refl _ _).drew,fun _ h=>.inl h⟩);obtain⟨hh,hI,ho⟩:=h;obtain⟨N,hN⟩:∃N,65536+(t.high-55296)*1024+(t.code-56320)=N:=⟨_,rfl⟩;rw[hN];have HR:=hid (fun w ho=>rune_any v t.made N w ho (by omega) (by omega));have HO:=hid ho;obtain⟨a,cap,rfl⟩:=row_shape ho;have q1:=blk_cell hh hI.c1;have q6:=blk_cell hh hI.c6;have q7:=blk_cell hh hI.c7;have HI:=hid hI;obtain⟨R,hR⟩:∃R:Int,(t.code:Int)=R:=⟨_,rfl⟩;obtain⟨G,hG⟩:∃G:Int,(t.high:Int)=G:=⟨_,rfl⟩;have g1:55296≤G:=by omega
 have g2:G<56320:=by omega
 have g3:56320≤R:=by omega
 have g4:R<57344:=by omega
 have HN:=hid (show 65536+(G-55296)*1024+R-56320=(N:Int) by omega);rw[hR]at q6;rw[hG]at q7;clear hh hI ho hT h1 h2 h3 h4 hR hG hN;go_enter Tryz.func213,Tryz.ntmps213;go_wp2;go_region
 all_goals
  go_wp2_with fail
  rw[HN.out];refine Calls.mono (HR.out _ HO.out) ?_;rintro e w2 ⟨v2,rfl,hown,hF,hnew⟩;obtain⟨hh1,hR⟩:=H0.out.rune HT.out hown hF hnew;obtain⟨a2,n2,cap2,rfl⟩:=row_shape3 hown;have r1:=blk_cell hh1 HI.out.c1;have r0:=blk_cell hh1 HI.out.c0;have r7:=blk_cell hh1 HI.out.c7;have s0:=blk_free (j:=o) hh1;have s1:=blk_free (j:=o+1) hh1;have s7:=blk_free (j:=o+7) hh1;have HRR:=hid hR;clear hown hF hnew hh1 hR;go_wp2;go_end0;have:=(HRR.out.s7 HT.out 0).s0 HT.out 0;exact⟨rfl,_,_,this⟩
theorem trEnd_any (B o T:Nat) (cs:Array Value) (v:Value) (t:Tr) (w:World) (hT:T≠5) (h:TrAt 0 w B o T cs v t) (hln:t.made.length≤40000000) (hc:t.code<65536) (hhi:t.high=0∨(55296≤t.high∧t.high<56320)) (hlow:t.high≠0↔56320≤t.code∧t.code<57344):
 Calls Tryz.prog 213 #[.pointer (some ⟨B,o,none⟩)] w fun e w'=>e=.returned (.tuple #[])∧TrPost 0 B o T cs v w w' (trEnd t):=by
 unfold trEnd;by_cases h0:t.high≠0
 ·rw[if_pos h0]
  have:=hlow.1 h0;exact end_a B o T cs v t w hT h hln (by omega) (by omega) this.1 this.2
 ·rw[if_neg h0]
  have h0':t.high=0:=by omega
  have hn:¬(56320≤t.code∧t.code<57344):=fun h=>h0 (hlow.2 h)
  by_cases h1:55296≤t.code∧t.code<56320
  ·rw[if_pos h1]
   exact end_b B o T cs v t w hT h h0' h1.1 h1.2
  ·rw[if_neg h1]
   exact end_c B o T cs v t w hT h hln h0' (by omega)
end Go.Proofs.YtmkkibaacclhnaaGreatDoor
