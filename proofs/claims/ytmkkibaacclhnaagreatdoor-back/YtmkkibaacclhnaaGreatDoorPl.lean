/-
  A step of the walk, the part named Pl. No theorem of the row.
-/
import Derived.Test.YtmkkibaacclhnaaGreatDoorPi
import Derived.Laws.BitsAllLaws
namespace Go.Proofs.YtmkkibaacclhnaaGreatDoor
open Go.RowKit
set_option maxRecDepth 100000
set_option maxHeartbeats 16000000
theorem i32_or_nat (a b:Nat) (ha:a<2147483648) (hb:b<2147483648):bits .or .i32 (a:Int) (b:Int)=((a|||b:Nat):Int):=by
 have hx:a|||b<2^31:=Nat.or_lt_two_pow (by omega) (by omega)
 show IntKind.i32.wrap ((BitVec.ofInt 32 (a:Int)|||BitVec.ofInt 32 (b:Int)).toNat:Int)=_
 have e:∀n:Nat,n<2147483648→(BitVec.ofInt 32 (n:Int)).toNat=n:=by
  intro n hn;rw[BitVec.toNat_ofInt];omega
 rw[BitVec.toNat_or,e a ha,e b hb];exact IntWalk.i32_in _ (by omega)
theorem hex_or (code x:Nat) (hc:code<4096) (hx:x<16):bits BinOp.or IntKind.i32 (IntKind.i32.wrap ((code:Int)*16)) (x:Int)=((code*16+x:Nat):Int):=by
 rw[IntWalk.i32_in _ (by omega),show(code:Int)*16=((code*16:Nat):Int) by omega,i32_or_nat _ _ (by omega) (by omega),nat_join 4 (code*16) x (by omega) (by omega)]
theorem dig_no (B o T:Nat) (cs:Array Value) (v:Value) (t:Tr) (c:UInt8) (w:World) (h:TrAt 0 w B o T cs v t) (he:hexV c=none):
 Calls Tryz.prog 184 #[.pointer (some ⟨B,o,none⟩),.int .u8 (c.toNat:Int)] w fun e w'=>e=gave 3∧Fr (fun _=>False) w w':=by
 obtain⟨hh,hI,ho⟩:=h;have k6:=blk_cell hh hI.c6;have HC:=hid (fun w=>hex_any c w);rw[he]at HC;simp only at HC;clear hh hI ho he;go_enter Tryz.func184,Tryz.ntmps184;go_wp2
 go_region_dies
 all_goals
  refine Calls.mono (HC.out _) ?_;rintro e w2 ⟨rfl,rfl⟩;exact⟨rfl,rfl,(Fr.refl _ _).drew⟩
structure DigH (B o T:Nat) (cs:Array Value) (v:Value) (t:Tr) (c:UInt8) (x y d:Nat) (w:World):Prop where
 hT:T≠5
 at_:TrAt 0 w B o T cs v t
 code:t.code<4096
 hex:hexV c=some x
 y:y=t.code*16+x
 d:d=t.dg+1
 dl:t.dg≤3
theorem dig_1a (B o T:Nat) (cs:Array Value) (v:Value) (t:Tr) (c:UInt8) (x y d:Nat) (w:World) (hD:DigH B o T cs v t c x y d w) (h1:d=1) (g7:((t.high:Int)!=0)=false):
 Calls Tryz.prog 184 #[.pointer (some ⟨B,o,none⟩),.int .u8 (c.toNat:Int)] w fun e w'=>e=.returned (.tuple #[])∧TrPost 0 B o T cs v w w' (trAdd t x):=by
 obtain⟨hT,h,hc,he,hy,hd,hdl⟩:=hD;have hx:=hexV_lt he;have hor:=hex_or t.code x hc hx;rw[←hy]at hor;have HT:=hid hT;have H0:=hid (show TrR 0 B o T cs v w cs v w.drew t from⟨h,ApartR.refl _ _,(Fr.refl _ _).drew,fun _ h=>.inl h⟩);have HY:=hid hy;have HDG:=hid hd;obtain⟨hh,hI,ho⟩:=h;have k0:=blk_cell hh hI.c0;have k5:=blk_cell hh hI.c5;have k6:=blk_cell hh hI.c6;have k7:=blk_cell hh hI.c7;have f5:=blk_free (j:=o+5) hh;have f6:=blk_free (j:=o+6) hh;have hadd:(t.dg:Int)+1=(d:Int):=by omega
 have HC:=hid (fun w=>hex_any c w);rw[he]at HC;simp only at HC;have H1:=hid ((H0.out.s6 HT.out y).s5 HT.out d);clear hh hI ho he hT hx hy hd hc;subst h1;go_enter Tryz.func184,Tryz.ntmps184
 go_upto_region 0 with fail
 go_cut [14] (fun u wc=>wc=(w.setCell ⟨B,o+6,none⟩ (.int .i32 (y:Int))).drew)
 case first=>
  go_region_with (go_at_call 212;refine Calls.mono (HC.out _) ?_;rintro e w2 ⟨rfl,rfl⟩)
  all_goals
   go_wp2;go_meet;rfl
 case rest=>
  subst hcut;go_wp2;go_end0;have e:trAdd t x=⟨t.st,t.made,t.lack,t.lo,t.hi,1,y,t.high⟩:=by unfold trAdd;rw[←HY.out,←HDG.out]
  rw[e];exact⟨rfl,_,_,H1.out⟩
theorem dig_1b (B o T:Nat) (cs:Array Value) (v:Value) (t:Tr) (c:UInt8) (x y d:Nat) (w:World) (hD:DigH B o T cs v t c x y d w) (h1:d=1) (g7:((t.high:Int)!=0)=true) (g8:((y:Int)!=13)=false):
 Calls Tryz.prog 184 #[.pointer (some ⟨B,o,none⟩),.int .u8 (c.toNat:Int)] w fun e w'=>e=.returned (.tuple #[])∧TrPost 0 B o T cs v w w' (trAdd t x):=by
 obtain⟨hT,h,hc,he,hy,hd,hdl⟩:=hD;have hx:=hexV_lt he;have hor:=hex_or t.code x hc hx;rw[←hy]at hor;have HT:=hid hT;have H0:=hid (show TrR 0 B o T cs v w cs v w.drew t from⟨h,ApartR.refl _ _,(Fr.refl _ _).drew,fun _ h=>.inl h⟩);have HY:=hid hy;have HDG:=hid hd;obtain⟨hh,hI,ho⟩:=h;have k0:=blk_cell hh hI.c0;have k5:=blk_cell hh hI.c5;have k6:=blk_cell hh hI.c6;have k7:=blk_cell hh hI.c7;have f5:=blk_free (j:=o+5) hh;have f6:=blk_free (j:=o+6) hh;have hadd:(t.dg:Int)+1=(d:Int):=by omega
 have HC:=hid (fun w=>hex_any c w);rw[he]at HC;simp only at HC;have H1:=hid ((H0.out.s6 HT.out y).s5 HT.out d);clear hh hI ho he hT hx hy hd hc;subst h1;go_enter Tryz.func184,Tryz.ntmps184
 go_upto_region 0 with fail
 go_cut [14] (fun u wc=>wc=(w.setCell ⟨B,o+6,none⟩ (.int .i32 (y:Int))).drew)
 case first=>
  go_region_with (go_at_call 212;refine Calls.mono (HC.out _) ?_;rintro e w2 ⟨rfl,rfl⟩)
  all_goals
   go_wp2;go_meet;rfl
 case rest=>
  subst hcut;go_wp2;go_end0;have e:trAdd t x=⟨t.st,t.made,t.lack,t.lo,t.hi,1,y,t.high⟩:=by unfold trAdd;rw[←HY.out,←HDG.out]
  rw[e];exact⟨rfl,_,_,H1.out⟩
theorem dig_1c (B o T:Nat) (cs:Array Value) (v:Value) (t:Tr) (c:UInt8) (x y d:Nat) (w:World) (hD:DigH B o T cs v t c x y d w) (h1:d=1) (g7:((t.high:Int)!=0)=true) (g8:((y:Int)!=13)=true):
 Calls Tryz.prog 184 #[.pointer (some ⟨B,o,none⟩),.int .u8 (c.toNat:Int)] w fun e w'=>e=gave 5∧TrErr B o T cs v w w':=by
 obtain⟨hT,h,hc,he,hy,hd,hdl⟩:=hD;have hx:=hexV_lt he;have hor:=hex_or t.code x hc hx;rw[←hy]at hor;have HT:=hid hT;have H0:=hid (show TrR 0 B o T cs v w cs v w.drew t from⟨h,ApartR.refl _ _,(Fr.refl _ _).drew,fun _ h=>.inl h⟩);have HY:=hid hy;have HDG:=hid hd;obtain⟨hh,hI,ho⟩:=h;have k0:=blk_cell hh hI.c0;have k5:=blk_cell hh hI.c5;have k6:=blk_cell hh hI.c6;have k7:=blk_cell hh hI.c7;have f5:=blk_free (j:=o+5) hh;have f6:=blk_free (j:=o+6) hh;have hadd:(t.dg:Int)+1=(d:Int):=by omega
 have HC:=hid (fun w=>hex_any c w);rw[he]at HC;simp only at HC;have H1:=hid ((H0.out.s6 HT.out y).s5 HT.out d);clear hh hI ho he hT hx hy hd hc;subst h1;go_enter Tryz.func184,Tryz.ntmps184
 go_upto_region 0 with fail
 go_cut [14] (fun u wc=>wc=(w.setCell ⟨B,o+6,none⟩ (.int .i32 (y:Int))).drew)
 case first=>
  go_region_with (go_at_call 212;refine Calls.mono (HC.out _) ?_;rintro e w2 ⟨rfl,rfl⟩)
  all_goals
   go_wp2;go_meet;rfl
 case rest=>
  subst hcut;go_wp2;exact⟨rfl,rfl,H1.out.err⟩
theorem dig_2a (B o T:Nat) (cs:Array Value) (v:Value) (t:Tr) (c:UInt8) (x y d:Nat) (w:World) (hD:DigH B o T cs v t c x y d w) (h1:d=2) (g7:((t.high:Int)!=0)=false) (g8:(y:Int)<220):
 Calls Tryz.prog 184 #[.pointer (some ⟨B,o,none⟩),.int .u8 (c.toNat:Int)] w fun e w'=>e=.returned (.tuple #[])∧TrPost 0 B o T cs v w w' (trAdd t x):=by
 obtain⟨hT,h,hc,he,hy,hd,hdl⟩:=hD;have hx:=hexV_lt he;have hor:=hex_or t.code x hc hx;rw[←hy]at hor;have HT:=hid hT;have H0:=hid (show TrR 0 B o T cs v w cs v w.drew t from⟨h,ApartR.refl _ _,(Fr.refl _ _).drew,fun _ h=>.inl h⟩);have HY:=hid hy;have HDG:=hid hd;obtain⟨hh,hI,ho⟩:=h;have k0:=blk_cell hh hI.c0;have k5:=blk_cell hh hI.c5;have k6:=blk_cell hh hI.c6;have k7:=blk_cell hh hI.c7;have f5:=blk_free (j:=o+5) hh;have f6:=blk_free (j:=o+6) hh;have hadd:(t.dg:Int)+1=(d:Int):=by omega
 have HC:=hid (fun w=>hex_any c w);rw[he]at HC;simp only at HC;have H1:=hid ((H0.out.s6 HT.out y).s5 HT.out d);clear hh hI ho he hT hx hy hd hc;subst h1;go_enter Tryz.func184,Tryz.ntmps184
 go_upto_region 0 with fail
 go_cut [14] (fun u wc=>wc=(w.setCell ⟨B,o+6,none⟩ (.int .i32 (y:Int))).drew)
 case first=>
  go_region_with (go_at_call 212;refine Calls.mono (HC.out _) ?_;rintro e w2 ⟨rfl,rfl⟩)
  all_goals
   go_wp2;go_meet;rfl
 case rest=>
  subst hcut;go_wp2;go_end0;have e:trAdd t x=⟨t.st,t.made,t.lack,t.lo,t.hi,2,y,t.high⟩:=by unfold trAdd;rw[←HY.out,←HDG.out]
  rw[e];exact⟨rfl,_,_,H1.out⟩
theorem dig_2b (B o T:Nat) (cs:Array Value) (v:Value) (t:Tr) (c:UInt8) (x y d:Nat) (w:World) (hD:DigH B o T cs v t c x y d w) (h1:d=2) (g7:((t.high:Int)!=0)=false) (g8:220≤(y:Int)) (g9:224≤(y:Int)):
 Calls Tryz.prog 184 #[.pointer (some ⟨B,o,none⟩),.int .u8 (c.toNat:Int)] w fun e w'=>e=.returned (.tuple #[])∧TrPost 0 B o T cs v w w' (trAdd t x):=by
 obtain⟨hT,h,hc,he,hy,hd,hdl⟩:=hD;have hx:=hexV_lt he;have hor:=hex_or t.code x hc hx;rw[←hy]at hor;have HT:=hid hT;have H0:=hid (show TrR 0 B o T cs v w cs v w.drew t from⟨h,ApartR.refl _ _,(Fr.refl _ _).drew,fun _ h=>.inl h⟩);have HY:=hid hy;have HDG:=hid hd;obtain⟨hh,hI,ho⟩:=h;have k0:=blk_cell hh hI.c0;have k5:=blk_cell hh hI.c5;have k6:=blk_cell hh hI.c6;have k7:=blk_cell hh hI.c7;have f5:=blk_free (j:=o+5) hh;have f6:=blk_free (j:=o+6) hh;have hadd:(t.dg:Int)+1=(d:Int):=by omega
 have HC:=hid (fun w=>hex_any c w);rw[he]at HC;simp only at HC;have H1:=hid ((H0.out.s6 HT.out y).s5 HT.out d);clear hh hI ho he hT hx hy hd hc;subst h1;go_enter Tryz.func184,Tryz.ntmps184
 go_upto_region 0 with fail
 go_cut [14] (fun u wc=>wc=(w.setCell ⟨B,o+6,none⟩ (.int .i32 (y:Int))).drew)
 case first=>
  go_region_with (go_at_call 212;refine Calls.mono (HC.out _) ?_;rintro e w2 ⟨rfl,rfl⟩)
  all_goals
   go_wp2;go_meet;rfl
 case rest=>
  subst hcut;go_wp2;go_end0;have e:trAdd t x=⟨t.st,t.made,t.lack,t.lo,t.hi,2,y,t.high⟩:=by unfold trAdd;rw[←HY.out,←HDG.out]
  rw[e];exact⟨rfl,_,_,H1.out⟩
theorem dig_2c (B o T:Nat) (cs:Array Value) (v:Value) (t:Tr) (c:UInt8) (x y d:Nat) (w:World) (hD:DigH B o T cs v t c x y d w) (h1:d=2) (g7:((t.high:Int)!=0)=false) (g8:220≤(y:Int)) (g9:(y:Int)<224):
 Calls Tryz.prog 184 #[.pointer (some ⟨B,o,none⟩),.int .u8 (c.toNat:Int)] w fun e w'=>e=gave 5∧TrErr B o T cs v w w':=by
 obtain⟨hT,h,hc,he,hy,hd,hdl⟩:=hD;have hx:=hexV_lt he;have hor:=hex_or t.code x hc hx;rw[←hy]at hor;have HT:=hid hT;have H0:=hid (show TrR 0 B o T cs v w cs v w.drew t from⟨h,ApartR.refl _ _,(Fr.refl _ _).drew,fun _ h=>.inl h⟩);have HY:=hid hy;have HDG:=hid hd;obtain⟨hh,hI,ho⟩:=h;have k0:=blk_cell hh hI.c0;have k5:=blk_cell hh hI.c5;have k6:=blk_cell hh hI.c6;have k7:=blk_cell hh hI.c7;have f5:=blk_free (j:=o+5) hh;have f6:=blk_free (j:=o+6) hh;have hadd:(t.dg:Int)+1=(d:Int):=by omega
 have HC:=hid (fun w=>hex_any c w);rw[he]at HC;simp only at HC;have H1:=hid ((H0.out.s6 HT.out y).s5 HT.out d);clear hh hI ho he hT hx hy hd hc;subst h1;go_enter Tryz.func184,Tryz.ntmps184
 go_upto_region 0 with fail
 go_cut [14] (fun u wc=>wc=(w.setCell ⟨B,o+6,none⟩ (.int .i32 (y:Int))).drew)
 case first=>
  go_region_with (go_at_call 212;refine Calls.mono (HC.out _) ?_;rintro e w2 ⟨rfl,rfl⟩)
  all_goals
   go_wp2;go_meet;rfl
 case rest=>
  subst hcut;go_wp2;exact⟨rfl,rfl,H1.out.err⟩
theorem dig_2d (B o T:Nat) (cs:Array Value) (v:Value) (t:Tr) (c:UInt8) (x y d:Nat) (w:World) (hD:DigH B o T cs v t c x y d w) (h1:d=2) (g7:((t.high:Int)!=0)=true) (g8:(y:Int)<220):
 Calls Tryz.prog 184 #[.pointer (some ⟨B,o,none⟩),.int .u8 (c.toNat:Int)] w fun e w'=>e=gave 5∧TrErr B o T cs v w w':=by
 obtain⟨hT,h,hc,he,hy,hd,hdl⟩:=hD;have hx:=hexV_lt he;have hor:=hex_or t.code x hc hx;rw[←hy]at hor;have HT:=hid hT;have H0:=hid (show TrR 0 B o T cs v w cs v w.drew t from⟨h,ApartR.refl _ _,(Fr.refl _ _).drew,fun _ h=>.inl h⟩);have HY:=hid hy;have HDG:=hid hd;obtain⟨hh,hI,ho⟩:=h;have k0:=blk_cell hh hI.c0;have k5:=blk_cell hh hI.c5;have k6:=blk_cell hh hI.c6;have k7:=blk_cell hh hI.c7;have f5:=blk_free (j:=o+5) hh;have f6:=blk_free (j:=o+6) hh;have hadd:(t.dg:Int)+1=(d:Int):=by omega
 have HC:=hid (fun w=>hex_any c w);rw[he]at HC;simp only at HC;have H1:=hid ((H0.out.s6 HT.out y).s5 HT.out d);clear hh hI ho he hT hx hy hd hc;subst h1;go_enter Tryz.func184,Tryz.ntmps184
 go_upto_region 0 with fail
 go_cut [14] (fun u wc=>wc=(w.setCell ⟨B,o+6,none⟩ (.int .i32 (y:Int))).drew)
 case first=>
  go_region_with (go_at_call 212;refine Calls.mono (HC.out _) ?_;rintro e w2 ⟨rfl,rfl⟩)
  all_goals
   go_wp2;go_meet;rfl
 case rest=>
  subst hcut;go_wp2;exact⟨rfl,rfl,H1.out.err⟩
theorem dig_2e (B o T:Nat) (cs:Array Value) (v:Value) (t:Tr) (c:UInt8) (x y d:Nat) (w:World) (hD:DigH B o T cs v t c x y d w) (h1:d=2) (g7:((t.high:Int)!=0)=true) (g8:220≤(y:Int)) (g9:decide ((y:Int)<224)=false):
 Calls Tryz.prog 184 #[.pointer (some ⟨B,o,none⟩),.int .u8 (c.toNat:Int)] w fun e w'=>e=gave 5∧TrErr B o T cs v w w':=by
 obtain⟨hT,h,hc,he,hy,hd,hdl⟩:=hD;have hx:=hexV_lt he;have hor:=hex_or t.code x hc hx;rw[←hy]at hor;have HT:=hid hT;have H0:=hid (show TrR 0 B o T cs v w cs v w.drew t from⟨h,ApartR.refl _ _,(Fr.refl _ _).drew,fun _ h=>.inl h⟩);have HY:=hid hy;have HDG:=hid hd;obtain⟨hh,hI,ho⟩:=h;have k0:=blk_cell hh hI.c0;have k5:=blk_cell hh hI.c5;have k6:=blk_cell hh hI.c6;have k7:=blk_cell hh hI.c7;have f5:=blk_free (j:=o+5) hh;have f6:=blk_free (j:=o+6) hh;have hadd:(t.dg:Int)+1=(d:Int):=by omega
 have HC:=hid (fun w=>hex_any c w);rw[he]at HC;simp only at HC;have H1:=hid ((H0.out.s6 HT.out y).s5 HT.out d);clear hh hI ho he hT hx hy hd hc;subst h1;go_enter Tryz.func184,Tryz.ntmps184
 go_upto_region 0 with fail
 go_cut [14] (fun u wc=>wc=(w.setCell ⟨B,o+6,none⟩ (.int .i32 (y:Int))).drew)
 case first=>
  go_region_with (go_at_call 212;refine Calls.mono (HC.out _) ?_;rintro e w2 ⟨rfl,rfl⟩)
  all_goals
   go_wp2;go_meet;rfl
 case rest=>
  subst hcut;go_wp2;exact⟨rfl,rfl,H1.out.err⟩
theorem dig_2f (B o T:Nat) (cs:Array Value) (v:Value) (t:Tr) (c:UInt8) (x y d:Nat) (w:World) (hD:DigH B o T cs v t c x y d w) (h1:d=2) (g7:((t.high:Int)!=0)=true) (g8:220≤(y:Int)) (g9:(y:Int)<224):
 Calls Tryz.prog 184 #[.pointer (some ⟨B,o,none⟩),.int .u8 (c.toNat:Int)] w fun e w'=>e=.returned (.tuple #[])∧TrPost 0 B o T cs v w w' (trAdd t x):=by
 obtain⟨hT,h,hc,he,hy,hd,hdl⟩:=hD;have hx:=hexV_lt he;have hor:=hex_or t.code x hc hx;rw[←hy]at hor;have HT:=hid hT;have H0:=hid (show TrR 0 B o T cs v w cs v w.drew t from⟨h,ApartR.refl _ _,(Fr.refl _ _).drew,fun _ h=>.inl h⟩);have HY:=hid hy;have HDG:=hid hd;obtain⟨hh,hI,ho⟩:=h;have k0:=blk_cell hh hI.c0;have k5:=blk_cell hh hI.c5;have k6:=blk_cell hh hI.c6;have k7:=blk_cell hh hI.c7;have f5:=blk_free (j:=o+5) hh;have f6:=blk_free (j:=o+6) hh;have hadd:(t.dg:Int)+1=(d:Int):=by omega
 have HC:=hid (fun w=>hex_any c w);rw[he]at HC;simp only at HC;have H1:=hid ((H0.out.s6 HT.out y).s5 HT.out d);clear hh hI ho he hT hx hy hd hc;subst h1;go_enter Tryz.func184,Tryz.ntmps184
 go_upto_region 0 with fail
 go_cut [14] (fun u wc=>wc=(w.setCell ⟨B,o+6,none⟩ (.int .i32 (y:Int))).drew)
 case first=>
  go_region_with (go_at_call 212;refine Calls.mono (HC.out _) ?_;rintro e w2 ⟨rfl,rfl⟩)
  all_goals
   go_wp2;go_meet;rfl
 case rest=>
  subst hcut;go_wp2;go_end0;have e:trAdd t x=⟨t.st,t.made,t.lack,t.lo,t.hi,2,y,t.high⟩:=by unfold trAdd;rw[←HY.out,←HDG.out]
  rw[e];exact⟨rfl,_,_,H1.out⟩
theorem dig_3 (B o T:Nat) (cs:Array Value) (v:Value) (t:Tr) (c:UInt8) (x y d:Nat) (w:World) (hD:DigH B o T cs v t c x y d w) (h1:d=3):
 Calls Tryz.prog 184 #[.pointer (some ⟨B,o,none⟩),.int .u8 (c.toNat:Int)] w fun e w'=>e=.returned (.tuple #[])∧TrPost 0 B o T cs v w w' (trAdd t x):=by
 obtain⟨hT,h,hc,he,hy,hd,hdl⟩:=hD;have hx:=hexV_lt he;have hor:=hex_or t.code x hc hx;rw[←hy]at hor;have HT:=hid hT;have H0:=hid (show TrR 0 B o T cs v w cs v w.drew t from⟨h,ApartR.refl _ _,(Fr.refl _ _).drew,fun _ h=>.inl h⟩);have HY:=hid hy;have HDG:=hid hd;obtain⟨hh,hI,ho⟩:=h;have k0:=blk_cell hh hI.c0;have k5:=blk_cell hh hI.c5;have k6:=blk_cell hh hI.c6;have k7:=blk_cell hh hI.c7;have f5:=blk_free (j:=o+5) hh;have f6:=blk_free (j:=o+6) hh;have hadd:(t.dg:Int)+1=(d:Int):=by omega
 have HC:=hid (fun w=>hex_any c w);rw[he]at HC;simp only at HC;have H1:=hid ((H0.out.s6 HT.out y).s5 HT.out d);clear hh hI ho he hT hx hy hd hc;subst h1;go_enter Tryz.func184,Tryz.ntmps184
 go_upto_region 0 with fail
 go_cut [14] (fun u wc=>wc=(w.setCell ⟨B,o+6,none⟩ (.int .i32 (y:Int))).drew)
 case first=>
  go_region_with (go_at_call 212;refine Calls.mono (HC.out _) ?_;rintro e w2 ⟨rfl,rfl⟩)
  all_goals
   go_wp2;go_meet;rfl
 case rest=>
  subst hcut;go_wp2;go_end0;have e:trAdd t x=⟨t.st,t.made,t.lack,t.lo,t.hi,3,y,t.high⟩:=by unfold trAdd;rw[←HY.out,←HDG.out]
  rw[e];exact⟨rfl,_,_,H1.out⟩
def TrDone (B o T:Nat) (cs:Array Value) (v:Value) (w:World) (r:Except Nat (Tr×Bool)) (e:Ending) (w':World):Prop:=
 match r with
 |.ok (t',b)=>e=.returned (.bool b)∧TrPost 0 B o T cs v w w' t'
 |.error n=>e=gave n∧TrErr B o T cs v w w'
theorem TrErr.same {B o T:Nat} {cs:Array Value} {v:Value} {t:Tr} {w w':World} (h:TrAt 0 w B o T cs v t) (hF:Fr (fun _=>False) w w'):TrErr B o T cs v w w':=
 ⟨cs,hF.heap h.1 id,ApartR.refl _ _,hF.mono (fun _ h=>h.elim)⟩
theorem trChar_any (B o T:Nat) (cs:Array Value) (v:Value) (t:Tr) (k:Nat) (c:UInt8) (w:World) (hT:T≠5) (h:TrAt 0 w B o T cs v t) (hok:TrOk t k) (hk:k≤10000000):
 Calls Tryz.prog 185 #[.pointer (some ⟨B,o,none⟩),.int .u8 (c.toNat:Int)] w (TrDone B o T cs v w (trChar t c)):=by
 have hln:t.made.length≤40000000:=by have:=hok.len;omega
 have H:=hid h;have HT:=hid hT;obtain⟨hh,hI,ho⟩:=h;have k0:=blk_cell hh hI.c0;have k1:=blk_cell hh hI.c1;have k7:=blk_cell hh hI.c7;have f0:=blk_free (j:=o) hh;have f1:=blk_free (j:=o+1) hh;have HI:=hid hI;have HO:=hid ho;have HS:=hid (fun w h=>trSev_any B o T cs v t k c w hT h hok hk);obtain⟨a,cap,rfl⟩:=row_shape ho;clear hh hI ho hT;unfold trChar;by_cases h92:c=92
 ·rw[if_pos h92]
  subst h92
  show Calls Tryz.prog 185 #[.pointer (some ⟨B,o,none⟩),.int .u8 (92:Int)] w _
  go_enter Tryz.func185,Tryz.ntmps185;go_wp2;go_ret;have:=(TrR.start H.out).s0 HT.out 2;exact⟨rfl,_,_,this⟩
 rw[if_neg h92];have q92:((c.toNat:Int)==92)=false:=beq_eq_false_iff_ne.2 (by have:=toNat_neP h92;simp at this;omega);by_cases hh0:t.high≠0
 ·rw[if_pos hh0]
  have hx2:((t.high:Int)!=0)=true:=bne_iff_ne.2 (by omega);clear hh0 h92;go_enter Tryz.func185,Tryz.ntmps185;go_wp2;exact⟨rfl,rfl,TrErr.same H.out (Fr.refl _ _)⟩
 rw[if_neg hh0];have hx2:((t.high:Int)!=0)=false:=by simp;omega
 by_cases h34:c=34
 ·rw[if_pos h34]
  subst h34;clear h92 q92 hh0
  show Calls Tryz.prog 185 #[.pointer (some ⟨B,o,none⟩),.int .u8 (34:Int)] w _
  go_enter Tryz.func185,Tryz.ntmps185;go_wp2;go_ret;exact⟨rfl,_,_,TrR.start H.out⟩
 rw[if_neg h34];have q34:((c.toNat:Int)==34)=false:=beq_eq_false_iff_ne.2 (by have:=toNat_neP h34;simp at this;omega);clear h92 h34 hh0;by_cases h32:c.toNat<32
 ·rw[if_pos h32]
  go_enter Tryz.func185,Tryz.ntmps185;go_wp2;exact⟨rfl,rfl,TrErr.same H.out (Fr.refl _ _)⟩
 rw[if_neg h32];by_cases h128:c.toNat<128
 ·rw[if_pos h128]
  obtain⟨i0,hi,hz0,hz1,hz2⟩:=info_parts Tryz.info5;have ho:=HO.out;go_enter Tryz.func185,Tryz.ntmps185
  go_wp2_with (first
   |(at_builtin;refine wpList_append_d _ rfl _ _ 65 rfl 5 i0 (.int .u8 0) 1 1 Tryz.underlying65 hi hz0 hz1 hz2 rfl (by decide) _ _ _ rfl (ho.alloc _) ⟨w.heap.size,0,none⟩ 1 1 [.int .u8 (c.toNat:Int)] rfl rfl ?c1 ?c2 ?c3 ?c4 ?_)
   |go_in)
  case c1=>exact cell_one_new _ _ _
  case c2=>intro u hu;simp at hu;subst hu;rfl
  case c3=>unfold maxLen;omega
  case c4=>omega
  intro v' w1 hown' hgrow hnew;obtain⟨g',cap',rfl⟩:=row_succ hown';obtain⟨hh1,hR⟩:=(TrR.start H.out).grow HT.out hown' hgrow hnew (us_one c) rfl;have q1:=blk_cell hh1 HI.out.c1;have p1:=blk_free (j:=o+1) hh1;have HR:=hid hR;clear hown' hgrow hnew hh1 hR ho;go_wp2;go_ret;exact⟨rfl,_,_,HR.out⟩
 ·rw[if_neg h128]
  have hs:=HS.out w H.out;cases hr:trSev t c with
  |error n=>
   rw[hr]at hs;have HQ:=hid hs;clear hs hr;go_enter Tryz.func185,Tryz.ntmps185
   go_wp2_with fail
   refine Calls.mono HQ.out ?_;rintro e w2 ⟨rfl,rfl⟩;exact⟨rfl,rfl,TrErr.same H.out (Fr.refl _ _)⟩
  |ok t'=>
   rw[hr]at hs;have HQ:=hid hs;clear hs hr;go_enter Tryz.func185,Tryz.ntmps185
   go_wp2_with fail
   refine Calls.mono HQ.out ?_;rintro e w2 ⟨rfl,hp⟩;have HP:=hid hp;clear hp;go_wp2;go_ret;exact⟨rfl,HP.out⟩
theorem ApartR.trans {o:Nat} {a b c:Array Value} (h:ApartR o a b) (k:ApartR o b c):ApartR o a c:=⟨k.1.trans h.1,fun j hj=>(k.2 j hj).trans (h.2 j hj)⟩
theorem TrR.trans {base B o T:Nat} {cs0 cs:Array Value} {v0 v:Value} {w0 W w':World} {t t':Tr} (h:TrR base B o T cs0 v0 w0 cs v W t) (k:TrPost base B o T cs v W w' t'):TrPost base B o T cs0 v0 w0 w' t':=by
 obtain⟨cs',v',k⟩:=k;have hs:=h.fr.size;refine⟨cs',v',k.is,h.ap.trans k.ap,h.fr.trans' k.fr ?_,?_⟩
 ·intro i hi
  rcases hi with hi|hi
  ·exact .inl (.inl hi)
  ·rcases h.ow i hi with h|h
   ·exact .inl (.inr h)
   ·exact .inr h
 ·intro g hg
  rcases k.ow g hg with h1|h1
  ·exact h.ow g h1
  ·exact .inr (by omega)
theorem dig_4 (B o T:Nat) (cs:Array Value) (v:Value) (t:Tr) (c:UInt8) (x y:Nat) (w:World) (hD:DigH B o T cs v t c x y 4 w) (hln:t.made.length≤40000000) (hhi:t.high=0∨(55296≤t.high∧t.high<56320)) (hlow:t.high≠0↔56320≤y∧y<57344):
 Calls Tryz.prog 184 #[.pointer (some ⟨B,o,none⟩),.int .u8 (c.toNat:Int)] w fun e w'=>e=.returned (.tuple #[])∧TrPost 0 B o T cs v w w' (trEnd (trAdd t x)):=by
 obtain⟨hT,h,hc,he,hy,hd,hdl⟩:=hD;have hx:=hexV_lt he;have hor:=hex_or t.code x hc hx;rw[←hy]at hor;have HT:=hid hT;have H0:=hid (show TrR 0 B o T cs v w cs v w.drew t from⟨h,ApartR.refl _ _,(Fr.refl _ _).drew,fun _ h=>.inl h⟩);obtain⟨hh,hI,ho⟩:=h;have k5:=blk_cell hh hI.c5;have k6:=blk_cell hh hI.c6;have k7:=blk_cell hh hI.c7;have f5:=blk_free (j:=o+5) hh;have f6:=blk_free (j:=o+6) hh;have hadd:(t.dg:Int)+1=4:=by omega
 have HC:=hid (fun w=>hex_any c w);rw[he]at HC;simp only at HC;have H1:=hid ((H0.out.s6 HT.out y).s5 HT.out 4);have e:trAdd t x=⟨t.st,t.made,t.lack,t.lo,t.hi,4,y,t.high⟩:=by unfold trAdd;rw[←hy,←hd]
 have HE:=hid (trEnd_any B o T _ v ⟨t.st,t.made,t.lack,t.lo,t.hi,4,y,t.high⟩ _ hT H1.out.is hln (by show y<65536;omega) hhi hlow);rw[e];clear hh hI ho he hT hx hy hd hc e hhi hlow;go_enter Tryz.func184,Tryz.ntmps184
 go_upto_region 0 with fail
 go_cut [14] (fun u wc=>wc=(w.setCell ⟨B,o+6,none⟩ (.int .i32 (y:Int))).drew)
 case first=>
  go_region_with (go_at_call 212;refine Calls.mono (HC.out _) ?_;rintro e w2 ⟨rfl,rfl⟩)
  all_goals
   go_wp2;go_meet;rfl
 case rest=>
  subst hcut
  go_wp2_with fail
  refine Calls.mono HE.out ?_;rintro e w2 ⟨rfl,hp⟩;have HP:=hid (H1.out.trans hp);clear hp;go_wp2;go_end0;exact⟨rfl,HP.out⟩
theorem trDig_any (B o T:Nat) (cs:Array Value) (v:Value) (t:Tr) (k:Nat) (c:UInt8) (w:World) (hT:T≠5) (h:TrAt 0 w B o T cs v t) (hok:TrOk t k) (hk:k≤10000000) (h3:t.st=3):
 Calls Tryz.prog 184 #[.pointer (some ⟨B,o,none⟩),.int .u8 (c.toNat:Int)] w fun e w'=>match trDig t c with
  |.ok t'=>e=.returned (.tuple #[])∧TrPost 0 B o T cs v w w' t'
  |.error n=>e=gave n∧TrErr B o T cs v w w':=by
 have hln:t.made.length≤40000000:=by have:=hok.len;omega
 have hdg:=hok.dg h3;have hcd:=hok.codeD h3
 have hc:t.code<4096:=by
  have:16^t.dg≤16^3:=Nat.pow_le_pow_right (by omega) hdg;omega
 unfold trDig;cases he:hexV c with
 |none=>
  simp only;exact(dig_no B o T cs v t c w h he).mono fun e w' ⟨h1,h2⟩=>⟨h1,TrErr.same h h2⟩
 |some x=>
  simp only;have hx:=hexV_lt he;obtain⟨y,hy⟩:∃y,y=t.code*16+x:=⟨_,rfl⟩;have D:∀d,d=t.dg+1→DigH B o T cs v t c x y d w:=fun d hd=>⟨hT,h,hc,he,hy,hd,hdg⟩
  rw[←hy];have b0:t.high=0→((t.high:Int)!=0)=false:=fun h=>by rw[h];rfl
  have b1:t.high≠0→((t.high:Int)!=0)=true:=fun h=>bne_iff_ne.2 (by omega)
  by_cases d1:t.dg+1=1
  ·rw[if_pos d1]
   by_cases hb:t.high≠0∧y≠13
   ·rw[if_pos hb]
    exact dig_1c B o T cs v t c x y 1 w (D 1 d1.symm) rfl (b1 hb.1) (bne_iff_ne.2 (by omega))
   ·rw[if_neg hb]
    by_cases h0:t.high=0
    ·exact dig_1a B o T cs v t c x y 1 w (D 1 d1.symm) rfl (b0 h0)
    ·have hy13:y=13:=by
      rcases Nat.decEq y 13 with hn|hn
      ·exact absurd ⟨h0,hn⟩ hb
      ·exact hn
     exact dig_1b B o T cs v t c x y 1 w (D 1 d1.symm) rfl (b1 h0) (by rw[hy13];rfl)
  rw[if_neg d1];by_cases d2:t.dg+1=2
  ·rw[if_pos d2]
   by_cases h0:t.high=0
   ·have e0:decide (t.high≠0)=false:=decide_eq_false (fun h=>h h0)
    rw[e0];by_cases hl:220≤y∧y<224
    ·rw[decide_eq_true hl,if_pos (by decide)]
     exact dig_2c B o T cs v t c x y 2 w (D 2 d2.symm) rfl (b0 h0) (by omega) (by omega)
    ·rw[decide_eq_false hl,if_neg (by decide)]
     by_cases hy1:y<220
     ·exact dig_2a B o T cs v t c x y 2 w (D 2 d2.symm) rfl (b0 h0) (by omega)
     ·exact dig_2b B o T cs v t c x y 2 w (D 2 d2.symm) rfl (b0 h0) (by omega) (by omega)
   ·have e0:decide (t.high≠0)=true:=decide_eq_true h0
    rw[e0];by_cases hl:220≤y∧y<224
    ·rw[decide_eq_true hl,if_neg (by decide)]
     exact dig_2f B o T cs v t c x y 2 w (D 2 d2.symm) rfl (b1 h0) (by omega) (by omega)
    ·rw[decide_eq_false hl,if_pos (by decide)]
     by_cases hy1:y<220
     ·exact dig_2d B o T cs v t c x y 2 w (D 2 d2.symm) rfl (b1 h0) (by omega)
     ·exact dig_2e B o T cs v t c x y 2 w (D 2 d2.symm) rfl (b1 h0) (by omega) (decide_eq_false (by omega))
  rw[if_neg d2];by_cases d4:t.dg+1=4
  ·rw[if_pos d4]
   have hl3:=hok.low3 h3 (by omega);exact dig_4 B o T cs v t c x y w (D 4 d4.symm) hln hok.high (by rw[hl3];omega)
  ·rw[if_neg d4]
   exact dig_3 B o T cs v t c x y 3 w (D 3 (by omega)) rfl
theorem trNext_any (B o T:Nat) (cs:Array Value) (v:Value) (t:Tr) (k:Nat) (c:UInt8) (w:World) (hT:T≠5) (h:TrAt 0 w B o T cs v t) (hok:TrOk t k) (hk:k≤10000000):
 Calls Tryz.prog 137 #[.pointer (some ⟨B,o,none⟩),.int .u8 (c.toNat:Int)] w (TrDone B o T cs v w (trNext t c)):=by
 have k0:=blk_cell h.1 h.2.1.c0;have H:=hid h;have hst:=hok.st;unfold trNext;have fin:∀(F:Nat) (r:Except Nat Tr),True:=fun _ _=>trivial
 clear fin;by_cases h1:t.st=1
 ·rw[if_pos h1]
  have hs:=trGo_any B o T cs v t k c w hT h hok hk h1;rw[h1]at k0;clear h1 hst h;cases hr:trGo t c with
  |error n=>
   rw[hr]at hs;have HQ:=hid hs;clear hs hr;go_enter Tryz.func137,Tryz.ntmps137
   go_wp2_with fail
   refine Calls.mono HQ.out ?_;rintro e w2 ⟨rfl,rfl⟩;exact⟨rfl,rfl,TrErr.same H.out (Fr.refl _ _)⟩
  |ok t'=>
   rw[hr]at hs;have HQ:=hid hs;clear hs hr;go_enter Tryz.func137,Tryz.ntmps137
   go_wp2_with fail
   refine Calls.mono HQ.out ?_;rintro e w2 ⟨rfl,hp⟩;have HP:=hid hp;clear hp;go_wp2;go_ret;exact⟨rfl,HP.out⟩
 rw[if_neg h1];by_cases h2:t.st=2
 ·rw[if_pos h2]
  have hs:=trEsc_any B o T cs v t k c w hT h hok hk;rw[h2]at k0;clear h1 h2 hst h;cases hr:trEsc t c with
  |error n=>
   rw[hr]at hs;have HQ:=hid hs;clear hs hr;go_enter Tryz.func137,Tryz.ntmps137
   go_wp2_with fail
   refine Calls.mono HQ.out ?_;rintro e w2 ⟨rfl,hF⟩;exact⟨rfl,rfl,TrErr.same H.out hF⟩
  |ok t'=>
   rw[hr]at hs;have HQ:=hid hs;clear hs hr;go_enter Tryz.func137,Tryz.ntmps137
   go_wp2_with fail
   refine Calls.mono HQ.out ?_;rintro e w2 ⟨rfl,hp⟩;have HP:=hid hp;clear hp;go_wp2;go_ret;exact⟨rfl,HP.out⟩
 rw[if_neg h2];by_cases h3:t.st=3
 ·rw[if_pos h3]
  have hs:=trDig_any B o T cs v t k c w hT h hok hk h3;rw[h3]at k0;clear h1 h2 h3 hst h;cases hr:trDig t c with
  |error n=>
   rw[hr]at hs;have HQ:=hid hs;clear hs hr;go_enter Tryz.func137,Tryz.ntmps137
   go_wp2_with fail
   refine Calls.mono HQ.out ?_;rintro e w2 ⟨rfl,hF⟩;exact⟨rfl,rfl,hF⟩
  |ok t'=>
   rw[hr]at hs;have HQ:=hid hs;clear hs hr;go_enter Tryz.func137,Tryz.ntmps137
   go_wp2_with fail
   refine Calls.mono HQ.out ?_;rintro e w2 ⟨rfl,hp⟩;have HP:=hid hp;clear hp;go_wp2;go_ret;exact⟨rfl,HP.out⟩
 rw[if_neg h3];have h0:t.st=0:=by omega
 have hs:=trChar_any B o T cs v t k c w hT h hok hk;rw[h0]at k0;clear h1 h2 h3 h0 hst h;cases hr:trChar t c with
 |error n=>
  rw[hr]at hs;have HQ:=hid hs;clear hs hr;go_enter Tryz.func137,Tryz.ntmps137
  go_wp2_with fail
  refine Calls.mono HQ.out ?_;rintro e w2 ⟨rfl,hF⟩;exact⟨rfl,rfl,hF⟩
 |ok tb=>
  obtain⟨t',b⟩:=tb;rw[hr]at hs;have HQ:=hid hs;clear hs hr;go_enter Tryz.func137,Tryz.ntmps137
  go_wp2_with fail
  refine Calls.mono HQ.out ?_;rintro e w2 ⟨rfl,hp⟩;have HP:=hid hp;clear hp;go_wp2;go_ret;exact⟨rfl,HP.out⟩
end Go.Proofs.YtmkkibaacclhnaaGreatDoor
