/-
  A step of the walk, the part named Srb. No theorem of the row.
-/
import Derived.Test.YtmkkibaacclhnaaGreatDoorTnr
import Derived.Test.YtmkkibaacclhnaaGreatDoorNce
import Derived.Deep.QuietTactic
import Derived.BigQuiet
import Derived.Deep.RegionWith
import Derived.Deep.DeepCutAuto
namespace Go.Proofs.YtmkkibaacclhnaaGreatDoor
open Go.RowKit
set_option maxRecDepth 100000
set_option maxHeartbeats 16000000
def KeepA (A:Nat→Prop) (w w':World):Prop:=∀i,A i→w'.heap[i]? =w.heap[i]?
theorem KeepA.trans {A:Nat→Prop} {a b c:World} (h:KeepA A a b) (k:KeepA A b c):KeepA A a c:=fun i hi=>(k i hi).trans (h i hi)
theorem sx_opA {S A:Nat→Prop} {w0 w:World} {b N N' f:Nat} {args:Array Value} {l:List (Nat×Nat)} {e0:Ending}
 (hc:∀g,Nt w b g N→Calls Tryz.prog f args w fun e w'=>e=e0∧∃g',Nt w' b g' N'∧Fr (fun i=>i=b∨i=g) w w'∧(g'=g∨w.heap.size≤g'))
 (h:Sx S A w0 w ((b,N)::l)):Calls Tryz.prog f args w fun e w'=>e=e0∧Sx S A w0 w' ((b,N')::l)∧KeepA A w w':=by
 obtain⟨L,h1,h2,h3,h4,h5⟩:=h;cases L with
 |nil=>simp at h1
 |cons t L=>
  obtain⟨b',g,N0⟩:=t;simp at h1;obtain⟨⟨rfl,rfl⟩,h1⟩:=h1;refine(hc g h2.1).mono ?_;rintro e w' ⟨rfl,g',r1,r2,r3⟩;refine⟨rfl,Sx.step h1 h2 h3 h4 h5 r1 r2 r3,fun i hi=>r2.block i (h5 i hi) ?_⟩;have ha:=(h4 _ List.mem_cons_self).2;simp only at ha;rintro(rfl|rfl)
  ·exact ha.1 hi
  ·exact ha.2 hi
theorem timesPlus_sa {S A:Nat→Prop} {w0 w:World} {l:List (Nat×Nat)} (b N f c:Nat) (hS:Sm N) (hf:f<4294967296) (hf0:0<f) (hc:c<4294967296) (h:Sx S A w0 w ((b,N)::l)):
 Calls Tryz.prog 122 #[.pointer (some ⟨b,0,none⟩),.int .u32 f,.int .u32 c] w fun e w'=>e=.returned (.tuple #[])∧Sx S A w0 w' ((b,f*N+c)::l)∧KeepA A w w':=
 sx_opA (fun g hg=>timesPlus_nt b g N f c w hS hf hf0 hc hg) h
theorem timesPowerOfTen_sa {S A:Nat→Prop} {w0 w:World} {l:List (Nat×Nat)} (b N k:Nat) (hS:Sm (N*p10 k)) (hk:k≤100000) (h:Sx S A w0 w ((b,N)::l)):
 Calls Tryz.prog 161 #[.pointer (some ⟨b,0,none⟩),.int .i64 k] w fun e w'=>e=.returned (.tuple #[])∧Sx S A w0 w' ((b,N*p10 k)::l)∧KeepA A w w':=
 sx_opA (fun g hg=>timesPowerOfTen_nt b g N k w hS hg hk) h
theorem shl_sa {S A:Nat→Prop} {w0 w:World} {l:List (Nat×Nat)} (b N k:Nat) (hk:k≤30000) (hS:Sm (p2 k*N)) (h:Sx S A w0 w ((b,N)::l)):
 Calls Tryz.prog 114 #[.pointer (some ⟨b,0,none⟩),.int .i64 k] w fun e w'=>e=.returned (.tuple #[])∧Sx S A w0 w' ((b,p2 k*N)::l)∧KeepA A w w':=
 sx_opA (fun g hg=>shiftLeft_nt b g N k w hk hg hS) h
theorem subtract_sa {S A:Nat→Prop} {w0 w:World} {l:List (Nat×Nat)} (b N c M:Nat) (hS:Sm N) (hS2:Sm M) (hge:M≤N) (h:Sx S A w0 w ((b,N)::(c,M)::l)):
 Calls Tryz.prog 118 #[.pointer (some ⟨b,0,none⟩),.pointer (some ⟨c,0,none⟩)] w fun e w'=>e=.returned (.tuple #[])∧Sx S A w0 w' ((b,N-M)::(c,M)::l)∧KeepA A w w':=by
 obtain⟨L,h1,h2,h3,h4,h5⟩:=h
 match L,h1 with
 |(b',g,N0)::(c',h',M0)::L,e1=>
  simp at e1;obtain⟨⟨rfl,rfl⟩,⟨rfl,rfl⟩,e1⟩:=e1;have hd:=h2.2.1 _ List.mem_cons_self;simp only at hd;refine(subtract_nt b' g c' h' N0 M0 w hS hS2 hge h2.1 h2.2.2.1 hd.1.symm hd.2.2.1.symm hd.2.1.symm hd.2.2.2.symm).mono ?_;rintro e w' ⟨rfl,r1,r2⟩;refine⟨rfl,Sx.step (by simp[e1]) h2 h3 h4 h5 r1 r2 (.inl rfl),fun i hi=>r2.block i (h5 i hi) ?_⟩;have ha:=(h4 _ List.mem_cons_self).2;simp only at ha;rintro(rfl|rfl)
  ·exact ha.1 hi
  ·exact ha.2 hi
theorem Sx.inA {S A:Nat→Prop} {w0 w:World} {l:List (Nat×Nat)} (h:Sx S A w0 w l) (i:Nat) (hi:A i):i<w.heap.size:=h.choose_spec.2.2.2.2 i hi
def Seven (w:World) (B:Nat) (dg:Nat) (pw:Int) (br bl bh bu:Nat) (ends:Bool):Prop:=
 w.heap[B]? =some (.cells #[.int .u64 dg,.int .i64 pw,.pointer (some ⟨br,0,none⟩),.pointer (some ⟨bl,0,none⟩),.pointer (some ⟨bh,0,none⟩),.pointer (some ⟨bu,0,none⟩),.bool ends] 143 (0,0))
theorem Seven.cells {w:World} {B dg:Nat} {pw:Int} {br bl bh bu:Nat} {ends:Bool} (h:Seven w B dg pw br bl bh bu ends):
 w.cell? ⟨B,0,none⟩=some (.int .u64 dg)∧w.cell? ⟨B,1,none⟩=some (.int .i64 pw)∧w.cell? ⟨B,2,none⟩=some (.pointer (some ⟨br,0,none⟩))∧w.cell? ⟨B,3,none⟩=some (.pointer (some ⟨bl,0,none⟩))∧
 w.cell? ⟨B,4,none⟩=some (.pointer (some ⟨bh,0,none⟩))∧w.cell? ⟨B,5,none⟩=some (.pointer (some ⟨bu,0,none⟩))∧w.cell? ⟨B,6,none⟩=some (.bool ends)∧∀j,w.frozen? ⟨B,j,none⟩=false:=by
 unfold Seven at h;simp[World.cell?,World.frozen?,h]
theorem Seven.set0 {w:World} {B dg:Nat} {pw:Int} {br bl bh bu:Nat} {ends:Bool} (h:Seven w B dg pw br bl bh bu ends) (d:Nat):Seven (w.setCell ⟨B,0,none⟩ (.int .u64 d)) B d pw br bl bh bu ends:=by
 have:=heap_setCell_same w B 0 _ 143 (.int .u64 d) h;simpa[Seven]using this
theorem Seven.set1 {w:World} {B dg:Nat} {pw:Int} {br bl bh bu:Nat} {ends:Bool} (h:Seven w B dg pw br bl bh bu ends) (p:Int):Seven (w.setCell ⟨B,1,none⟩ (.int .i64 p)) B dg p br bl bh bu ends:=by
 have:=heap_setCell_same w B 1 _ 143 (.int .i64 p) h;simpa[Seven]using this
theorem Seven.set3 {w:World} {B dg:Nat} {pw:Int} {br bl bh bu:Nat} {ends:Bool} (h:Seven w B dg pw br bl bh bu ends) (b:Nat):Seven (w.setCell ⟨B,3,none⟩ (.pointer (some ⟨b,0,none⟩))) B dg pw br b bh bu ends:=by
 have:=heap_setCell_same w B 3 _ 143 (.pointer (some ⟨b,0,none⟩)) h;simpa[Seven]using this
theorem Seven.keep {w w':World} {A:Nat→Prop} {B dg:Nat} {pw:Int} {br bl bh bu:Nat} {ends:Bool} (h:Seven w B dg pw br bl bh bu ends) (hk:KeepA A w w') (hA:A B):Seven w' B dg pw br bl bh bu ends:=(hk B hA).trans h
structure St (A:Nat→Prop) (w0 w:World) (B dg:Nat) (pw:Int) (R L H U:Nat) (br bl bh bu:Nat) (ends:Bool):Prop where
 sv:Seven w B dg pw br bl bh bu ends
 sx:Sx (fun _=>False) A w0 w [(br,R),(bl,L),(bh,H),(bu,U)]
 inA:A B
 new:w0.heap.size≤B
theorem St.drewN {A:Nat→Prop} {w0 w:World} {B dg:Nat} {pw:Int} {R L H U br bl bh bu:Nat} {ends:Bool} (h:St A w0 w B dg pw R L H U br bl bh bu ends) (m:Nat):St A w0 (w.drewN m) B dg pw R L H U br bl bh bu ends:=⟨h.sv,h.sx.drewN m,h.inA,h.new⟩
theorem St.set0 {A:Nat→Prop} {w0 w:World} {B dg:Nat} {pw:Int} {R L H U br bl bh bu:Nat} {ends:Bool} (h:St A w0 w B dg pw R L H U br bl bh bu ends) (d:Nat):St A w0 (w.setCell ⟨B,0,none⟩ (.int .u64 d)) B d pw R L H U br bl bh bu ends:=
 ⟨h.sv.set0 d,h.sx.other (T:=fun i=>i=B) ((Fr.refl (fun i=>i=B) w).setCell (p:=⟨B,0,none⟩) (.inl rfl) _) (fun i hi=>.inr (by have:=h.new;omega)) (fun i hi=>by rw[hi];exact h.inA),h.inA,h.new⟩
theorem St.set1 {A:Nat→Prop} {w0 w:World} {B dg:Nat} {pw:Int} {R L H U br bl bh bu:Nat} {ends:Bool} (h:St A w0 w B dg pw R L H U br bl bh bu ends) (p:Int):St A w0 (w.setCell ⟨B,1,none⟩ (.int .i64 p)) B dg p R L H U br bl bh bu ends:=
 ⟨h.sv.set1 p,h.sx.other (T:=fun i=>i=B) ((Fr.refl (fun i=>i=B) w).setCell (p:=⟨B,1,none⟩) (.inl rfl) _) (fun i hi=>.inr (by have:=h.new;omega)) (fun i hi=>by rw[hi];exact h.inA),h.inA,h.new⟩
theorem perm3 {α:Type} (a b c d:α):[a,b,c,d].Perm [c,a,b,d]:=by
 have:[a,b,c,d].Perm [a,c,b,d]:=(List.Perm.swap _ _ _).cons _;exact this.trans (List.Perm.swap _ _ _)
theorem sx_l {A:Nat→Prop} {w0 w:World} {r l h u:Nat×Nat} (hx:Sx (fun _=>False) A w0 w [r,l,h,u]):Sx (fun _=>False) A w0 w [l,r,h,u]:=hx.swap
theorem sx_h {A:Nat→Prop} {w0 w:World} {r l h u:Nat×Nat} (hx:Sx (fun _=>False) A w0 w [r,l,h,u]):Sx (fun _=>False) A w0 w [h,r,l,u]:=hx.perm (perm3 r l h u)
theorem sx_h' {A:Nat→Prop} {w0 w:World} {r l h u:Nat×Nat} (hx:Sx (fun _=>False) A w0 w [h,r,l,u]):Sx (fun _=>False) A w0 w [r,l,h,u]:=hx.perm (by
 have:[h,r,l,u].Perm [r,h,l,u]:=List.Perm.swap _ _ _
 exact this.trans ((List.Perm.swap _ _ _).cons _))
theorem sx_u {A:Nat→Prop} {w0 w:World} {r l h u:Nat×Nat} (hx:Sx (fun _=>False) A w0 w [r,l,h,u]):Sx (fun _=>False) A w0 w [u,r,l,h]:=hx.perm (by
 have:([r,l,h]++[u]).Perm ([u]++[r,l,h]):=List.perm_append_comm
 exact this)
theorem sx_u' {A:Nat→Prop} {w0 w:World} {r l h u:Nat×Nat} (hx:Sx (fun _=>False) A w0 w [u,r,l,h]):Sx (fun _=>False) A w0 w [r,l,h,u]:=hx.perm (by
 have:([u]++[r,l,h]).Perm ([r,l,h]++[u]):=List.perm_append_comm
 exact this)
theorem sx_ru {A:Nat→Prop} {w0 w:World} {r l h u:Nat×Nat} (hx:Sx (fun _=>False) A w0 w [r,l,h,u]):Sx (fun _=>False) A w0 w [r,u,l,h]:=(sx_u hx).swap
theorem sx_ru' {A:Nat→Prop} {w0 w:World} {r l h u:Nat×Nat} (hx:Sx (fun _=>False) A w0 w [r,u,l,h]):Sx (fun _=>False) A w0 w [r,l,h,u]:=sx_u' hx.swap
def wi (g r:Nat) (ends:Bool):Bool:=decide (g<r)||(decide (g=r)&&ends)
theorem within_any {S A:Nat→Prop} {w0 w:World} {l l2:List (Nat×Nat)} (B bg br G R:Nat) (ends:Bool) (hS:Sm G) (hS2:Sm R) (h:Sx S A w0 w ((bg,G)::l)) (h2:Sx S A w0 w ((br,R)::l2)) (hc:w.cell? ⟨B,6,none⟩=some (.bool ends)):
 Calls Tryz.prog 119 #[.pointer (some ⟨B,0,none⟩),.pointer (some ⟨bg,0,none⟩),.pointer (some ⟨br,0,none⟩)] w fun e w'=>e=.returned (.bool (wi G R ends))∧∃m,w'=w.drewN m:=by
 have HX:=hid h;have HX2:=hid h2;have H1:=hid hS;have H2:=hid hS2;clear h h2 hS hS2;go_enter Tryz.func119,Tryz.ntmps119
 go_wp2_with fail
 refine(compare_sx bg G br R H1.out H2.out HX.out HX2.out).mono ?_;rintro e w1 ⟨r,rfl,hr1,hr2,hr3,hr4,m,rfl⟩;rcases Nat.lt_trichotomy G R with h|h|h
 ·have hr:r<0:=by omega
  have hw:Hid (wi G R ends=true):=by simp[Hid,wi,h]
  clear hr1 hr2 h;go_wp2;go_ret;exact⟨by rw[hw.out];rfl,_,rfl⟩
 ·have hr:r=0:=by omega
  subst hr;have hw:Hid (wi G R ends=ends):=by simp[Hid,wi,h]
  clear hr1 hr2 h;cases ends
  ·go_wp2
   go_ret;exact⟨by rw[hw.out];rfl,_,rfl⟩
  ·go_wp2
   go_ret;exact⟨by rw[hw.out];rfl,_,rfl⟩
 ·have hr:0<r:=by omega
  have hrz:(r==0)=false:=beq_eq_false_iff_ne.2 (by omega);have hrd:decide (r<0)=false:=by rw[decide_eq_false_iff_not];omega
  have hw:Hid (wi G R ends=false):=by simp[Hid,wi];omega
  clear hr1 hr2 h;go_wp2;go_ret;exact⟨by rw[hw.out];rfl,_,rfl⟩
theorem ten_any {S A:Nat→Prop} {w0 w:World} {l:List (Nat×Nat)} (b N:Nat) (hS:Sm N) (h:Sx S A w0 w ((b,N)::l)):
 Calls Tryz.prog 121 #[.pointer (some ⟨b,0,none⟩)] w fun e w'=>e=.returned (.tuple #[])∧Sx S A w0 w' ((b,10*N)::l)∧KeepA A w w':=by
 have HX:=hid h;have H1:=hid hS;clear h hS;go_enter Tryz.func121,Tryz.ntmps121
 go_wp2_with fail
 refine(timesPlus_sa b N 10 0 H1.out (by omega) (by omega) (by omega) HX.out).mono ?_;rintro e w1 ⟨rfl,hx,hk⟩;have HX1:=hid hx;have HK:=hid hk;clear hx hk HX;go_wp2;go_end0;exact⟨rfl,HX1.out,HK.out⟩
theorem shiftBy_any {S A:Nat→Prop} {w0 w:World} {l:List (Nat×Nat)} (b N k bc:Nat) (hk:k≤30000) (hS:Sm (p2 k*N)) (h:Sx S A w0 w ((b,N)::l)) (hc:w.cell? ⟨bc,0,none⟩=some (.int .i64 k)):
 Calls Tryz.prog 113 #[.pointer (some ⟨b,0,none⟩),.pointer (some ⟨bc,0,none⟩)] w fun e w'=>e=.returned (.tuple #[])∧Sx S A w0 w' ((b,p2 k*N)::l)∧KeepA A w w':=by
 have HX:=hid h;have H1:=hid hS;clear h hS;go_enter Tryz.func113,Tryz.ntmps113
 go_wp2_with fail
 refine(shl_sa b N k hk H1.out HX.out).mono ?_;rintro e w1 ⟨rfl,hx,hk⟩;have HX1:=hid hx;have HK:=hid hk;clear hx hk HX;go_wp2;go_end0;exact⟨rfl,HX1.out,HK.out⟩
theorem tensBy_any {S A:Nat→Prop} {w0 w:World} {l:List (Nat×Nat)} (b N k bc B:Nat) (hk:k≤30000) (hS:Sm (N*p10 k)) (h:Sx S A w0 w ((b,N)::l)) (hc:w.cell? ⟨bc,0,none⟩=some (.pointer (some ⟨B,0,none⟩))) (hc1:w.cell? ⟨B,1,none⟩=some (.int .i64 (-(k:Int)))):
 Calls Tryz.prog 168 #[.pointer (some ⟨b,0,none⟩),.pointer (some ⟨bc,0,none⟩)] w fun e w'=>e=.returned (.tuple #[])∧Sx S A w0 w' ((b,N*p10 k)::l)∧KeepA A w w':=by
 have HX:=hid h;have H1:=hid hS;clear h hS;go_enter Tryz.func168,Tryz.ntmps168
 go_wp2_with fail
 try rw[Int.neg_neg]
 refine(timesPowerOfTen_sa b N k H1.out (by omega) HX.out).mono ?_;rintro e w1 ⟨rfl,hx,hk⟩;have HX1:=hid hx;have HK:=hid hk;clear hx hk HX;go_wp2;go_end0;exact⟨rfl,HX1.out,HK.out⟩
theorem timesAll_ten {A:Nat→Prop} {w0 w:World} {B dg:Nat} {pw:Int} {R L H U br bl bh bu:Nat} {ends:Bool} (hs1:Sm R) (hs2:Sm L) (hs3:Sm H) (h:St A w0 w B dg pw R L H U br bl bh bu ends):
 Calls Tryz.prog 112 #[.pointer (some ⟨B,0,none⟩),.func (.func 121) #[] #[]] w fun e w'=>e=.returned (.tuple #[])∧St A w0 w' B dg pw (10*R) (10*L) (10*H) U br bl bh bu ends∧KeepA A w w':=by
 have HH:=hid h;have hsv:=h.sv.cells;have hc2:=hsv.2.2.1;clear h hsv;have HS1:=hid hs1;have HS2:=hid hs2;have HS3:=hid hs3;clear hs1 hs2 hs3;go_enter Tryz.func112,Tryz.ntmps112
 go_wp2_with fail
 refine(ten_any br R HS1.out HH.out.sx).mono ?_;rintro e w1 ⟨rfl,hx1,hk1⟩;have HX1:=hid (sx_l hx1);have hsv1:=(HH.out.sv.keep hk1 HH.out.inA);have hc3:=hsv1.cells.2.2.2.1;have HSV1:=hid hsv1;have HK1:=hid hk1;clear hx1 hsv1 hk1 hc2
 go_wp2_with fail
 refine(ten_any bl L HS2.out HX1.out).mono ?_;rintro e w2 ⟨rfl,hx2,hk2⟩;have HX2:=hid (sx_h (sx_l hx2));have hsv2:=(Seven.keep HSV1.out hk2 HH.out.inA);have hc4:=hsv2.cells.2.2.2.2.1;have HSV2:=hid hsv2;have HK2:=hid (HK1.out.trans hk2);clear hx2 hsv2 hk2 hc3
 go_wp2_with fail
 refine(ten_any bh H HS3.out HX2.out).mono ?_;rintro e w3 ⟨rfl,hx3,hk3⟩;have HX3:=hid (sx_h' hx3);have HSV3:=hid (Seven.keep HSV2.out hk3 HH.out.inA);have HK3:=hid (HK2.out.trans hk3);clear hx3 hk3 hc4;go_wp2;go_end0;exact⟨rfl,⟨HSV3.out,HX3.out,HH.out.inA,HH.out.new⟩,HK3.out⟩
theorem timesAll_shift {A:Nat→Prop} {w0 w:World} {B dg:Nat} {pw:Int} {R L H U br bl bh bu:Nat} {ends:Bool} (k bc:Nat) (hk:k≤30000) (hs1:Sm (p2 k*R)) (hs2:Sm (p2 k*L)) (hs3:Sm (p2 k*H)) (hbc:w.heap[bc]? =some (.cells #[.int .i64 k] 3 (0,0))) (hA:A bc) (h:St A w0 w B dg pw R L H U br bl bh bu ends):
 Calls Tryz.prog 112 #[.pointer (some ⟨B,0,none⟩),.func (.func 113) #[] #[.pointer (some ⟨bc,0,none⟩)]] w fun e w'=>e=.returned (.tuple #[])∧St A w0 w' B dg pw (p2 k*R) (p2 k*L) (p2 k*H) U br bl bh bu ends∧KeepA A w w':=by
 have HH:=hid h;have hsv:=h.sv.cells;have hc2:=hsv.2.2.1;clear h hsv;have HS1:=hid hs1;have HS2:=hid hs2;have HS3:=hid hs3;clear hs1 hs2 hs3;have HB1:=hid hbc;clear hbc;go_enter Tryz.func112,Tryz.ntmps112
 go_wp2_with fail
 refine(shiftBy_any br R k bc hk HS1.out HH.out.sx (cell_of_one HB1.out)).mono ?_;rintro e w1 ⟨rfl,hx1,hk1⟩;have HX1:=hid (sx_l hx1);have hsv1:=(HH.out.sv.keep hk1 HH.out.inA);have hc3:=hsv1.cells.2.2.2.1;have HSV1:=hid hsv1;have HK1:=hid hk1;have HB2:=hid ((hk1 bc hA).trans HB1.out);clear hx1 hsv1 hk1 hc2
 go_wp2_with fail
 refine(shiftBy_any bl L k bc hk HS2.out HX1.out (cell_of_one HB2.out)).mono ?_;rintro e w2 ⟨rfl,hx2,hk2⟩;have HX2:=hid (sx_h (sx_l hx2));have hsv2:=(Seven.keep HSV1.out hk2 HH.out.inA);have hc4:=hsv2.cells.2.2.2.2.1;have HSV2:=hid hsv2;have HK2:=hid (HK1.out.trans hk2);have HB3:=hid ((hk2 bc hA).trans HB2.out);clear hx2 hsv2 hk2 hc3
 go_wp2_with fail
 refine(shiftBy_any bh H k bc hk HS3.out HX2.out (cell_of_one HB3.out)).mono ?_;rintro e w3 ⟨rfl,hx3,hk3⟩;have HX3:=hid (sx_h' hx3);have HSV3:=hid (Seven.keep HSV2.out hk3 HH.out.inA);have HK3:=hid (HK2.out.trans hk3);clear hx3 hk3 hc4;go_wp2;go_end0;exact⟨rfl,⟨HSV3.out,HX3.out,HH.out.inA,HH.out.new⟩,HK3.out⟩
theorem timesAll_tens {A:Nat→Prop} {w0 w:World} {B dg:Nat} {pw:Int} {R L H U br bl bh bu:Nat} {ends:Bool} (k bc:Nat) (hk:k≤30000) (hs1:Sm (R*p10 k)) (hs2:Sm (L*p10 k)) (hs3:Sm (H*p10 k)) (hbc:w.heap[bc]? =some (.cells #[.pointer (some ⟨B,0,none⟩)] 137 (0,0))) (hA:A bc) (hpw:pw= -(k:Int)) (h:St A w0 w B dg pw R L H U br bl bh bu ends):
 Calls Tryz.prog 112 #[.pointer (some ⟨B,0,none⟩),.func (.func 168) #[] #[.pointer (some ⟨bc,0,none⟩)]] w fun e w'=>e=.returned (.tuple #[])∧St A w0 w' B dg pw (R*p10 k) (L*p10 k) (H*p10 k) U br bl bh bu ends∧KeepA A w w':=by
 have HH:=hid h;have hsv:=h.sv.cells;have hc2:=hsv.2.2.1;clear h hsv;have HS1:=hid hs1;have HS2:=hid hs2;have HS3:=hid hs3;clear hs1 hs2 hs3;subst hpw;have HB1:=hid hbc;have HQ1:=hid HH.out.sv.cells.2.1;clear hbc;go_enter Tryz.func112,Tryz.ntmps112
 go_wp2_with fail
 refine(tensBy_any br R k bc B hk HS1.out HH.out.sx (cell_of_one HB1.out) HQ1.out).mono ?_;rintro e w1 ⟨rfl,hx1,hk1⟩;have HX1:=hid (sx_l hx1);have hsv1:=(HH.out.sv.keep hk1 HH.out.inA);have hc3:=hsv1.cells.2.2.2.1;have HSV1:=hid hsv1;have HK1:=hid hk1;have HB2:=hid ((hk1 bc hA).trans HB1.out);have HQ2:=hid hsv1.cells.2.1;clear hx1 hsv1 hk1 hc2
 go_wp2_with fail
 refine(tensBy_any bl L k bc B hk HS2.out HX1.out (cell_of_one HB2.out) HQ2.out).mono ?_;rintro e w2 ⟨rfl,hx2,hk2⟩;have HX2:=hid (sx_h (sx_l hx2));have hsv2:=(Seven.keep HSV1.out hk2 HH.out.inA);have hc4:=hsv2.cells.2.2.2.2.1;have HSV2:=hid hsv2;have HK2:=hid (HK1.out.trans hk2);have HB3:=hid ((hk2 bc hA).trans HB2.out);have HQ3:=hid hsv2.cells.2.1;clear hx2 hsv2 hk2 hc3
 go_wp2_with fail
 refine(tensBy_any bh H k bc B hk HS3.out HX2.out (cell_of_one HB3.out) HQ3.out).mono ?_;rintro e w3 ⟨rfl,hx3,hk3⟩;have HX3:=hid (sx_h' hx3);have HSV3:=hid (Seven.keep HSV2.out hk3 HH.out.inA);have HK3:=hid (HK2.out.trans hk3);clear hx3 hk3 hc4;go_wp2;go_end0;exact⟨rfl,⟨HSV3.out,HX3.out,HH.out.inA,HH.out.new⟩,HK3.out⟩
def cmpI (ws ms:List Nat):Int:=if ws.length=ms.length then(if val ws<val ms then-1 else if val ms<val ws then 1 else 0)else(ws.length:Int)-ms.length
theorem compare_fn (b g c h:Nat) (ws ms:List Nat) (w:World) (hl:ws.length≤1000000) (hl2:ms.length≤1000000) (hws:Limbs ws) (hms:Limbs ms) (_htw:Top ws) (_htm:Top ms) (hN:IsNat w b g ws) (hM:IsNat w c h ms):
 Calls Tryz.prog 120 #[.pointer (some ⟨b,0,none⟩),.pointer (some ⟨c,0,none⟩)] w fun e w'=>e=.returned (.int .i64 (cmpI ws ms))∧∃m,w'=w.drewN m:=by
 obtain⟨cap,T,hb,ho,hne⟩:=hN;obtain⟨cap2,T2,hb2,ho2,hne2⟩:=hM;have hbc:=cell_of_one hb;have hbc2:=cell_of_one hb2;by_cases hle:ws.length=ms.length
 ·have hd:((ws.length:Int)!=(ms.length:Int))=false:=by simp;omega
  have hle1:ws.length≤ms.length:=by omega
  have hle2:ms.length≤ws.length:=by omega
  have HL:Hid (ws.length=ms.length):=hle;clear hle;go_enter Tryz.func120,Tryz.ntmps120
  go_wp2_with fail;go_quiet (fail)
  go_wp2
  go_loopw [5] (fun i wr=>∃k:Nat,k≤ws.length∧i=.int .i64 ((k:Int)-1)∧Hid (ws.drop k=ms.drop k)∧∃m,wr=w.drewN m) (fun i _=>(intOf i+1).toNat)
  case atStart=>exact⟨ws.length,Nat.le_refl _,rfl,by simp[Hid];exact(by rw[HL.out];simp),_,rfl⟩
  case round=>
   obtain⟨k,hk,rfl,hE,m,rfl⟩:=hrel;rcases Nat.eq_zero_or_pos k with rfl|hk0
   ·go_wp2
    go_ret;have:ws=ms:=by simpa[Hid]using hE
    exact⟨by rw[show cmpI ws ms=0 from by unfold cmpI;rw[this];simp];rfl,by first|exact⟨_,rfl⟩|(simp only[World.drewN_drewN];exact⟨_,rfl⟩)⟩
   ·obtain⟨j,rfl⟩:∃j,k=j+1:=⟨k-1,by omega⟩
    have hcx:=nat_cell ho j (by omega);have hcy:=nat_cell ho2 j (by omega);have hbd1:j<ws.length:=by omega
    have hbd2:j<ms.length:=by omega
    have hc1:=ownsRow_cap ho;have hc2:=ownsRow_cap ho2;rcases Nat.lt_trichotomy ws[j] ms[j]with hx|hx|hx
    ·go_wp2_with fail;go_quiet (fail)
     go_wp2;go_ret;have:=lt_of_word ws ms hws HL.out j hbd1 hE.out hx;exact⟨by rw[show cmpI ws ms= -1 from by unfold cmpI;rw[if_pos HL.out,if_pos this]];rfl,by first|exact⟨_,rfl⟩|(simp only[World.drewN_drewN];exact⟨_,rfl⟩)⟩
    ·have hn1:ms[j]≤ws[j]:=by omega
     have hn2:ws[j]≤ms[j]:=by omega
     have HX:Hid _:=hx;clear hx
     go_wp2_with fail;go_quiet (fail)
     go_wp2_with fail;go_quiet (fail)
     go_wp2;go_roundw
     case rel=>exact⟨j,by omega,by go_num,by show _=_;rw[List.drop_eq_getElem_cons hbd1,List.drop_eq_getElem_cons hbd2,HX.out,hE.out],by first|exact⟨_,rfl⟩|(simp only[World.drewN_drewN];exact⟨_,rfl⟩)⟩
     case measure=>simp[intOf]<;>omega
    ·go_wp2_with fail;go_quiet (fail)
     go_wp2_with fail;go_quiet (fail)
     go_wp2;go_ret;have:=lt_of_word ms ws hms HL.out.symm j hbd2 hE.out.symm hx;exact⟨by rw[show cmpI ws ms=1 from by unfold cmpI;rw[if_pos HL.out,if_neg (by omega),if_pos this]];rfl,by first|exact⟨_,rfl⟩|(simp only[World.drewN_drewN];exact⟨_,rfl⟩)⟩
 ·have hd:((ws.length:Int)!=(ms.length:Int))=true:=by simp;omega
  go_enter Tryz.func120,Tryz.ntmps120
  go_wp2_with fail;go_quiet (fail)
  go_wp2_with fail;go_quiet (fail)
  go_wp2;go_ret;exact⟨by rw[show cmpI ws ms=(ws.length:Int)-ms.length from if_neg hle];rfl,by first|exact⟨_,rfl⟩|(simp only[World.drewN_drewN];exact⟨_,rfl⟩)⟩
theorem compare_q {S A:Nat→Prop} {w0 w:World} {l l2:List (Nat×Nat)} (b N c M:Nat) (hS:Sm N) (hS2:Sm M) (h:Sx S A w0 w ((b,N)::l)) (h2:Sx S A w0 w ((c,M)::l2)):
 ∃r:Int,(r<0↔N<M)∧(r=0↔N=M)∧ -1000000≤r∧r≤1000000∧∀n,Calls Tryz.prog 120 #[.pointer (some ⟨b,0,none⟩),.pointer (some ⟨c,0,none⟩)] (w.drewN n) fun e w'=>e=.returned (.int .i64 r)∧∃m,w'=(w.drewN n).drewN m:=by
 obtain⟨g,ws,h1,h2',h3,rfl⟩:=h.head;obtain⟨g2,ms,k1,k2,k3,rfl⟩:=h2.head;have a:=hS.len h3;have a2:=hS2.len k3;clear hS hS2;refine⟨cmpI ws ms,?_,?_,?_,?_,fun n=>compare_fn b g c g2 ws ms (w.drewN n) (by omega) (by omega) h2' k2 h3 k3 (h1.drewN n) (k1.drewN n)⟩
 ·unfold cmpI
  by_cases hl:ws.length=ms.length
  ·rw[if_pos hl]
   split
   ·omega
   ·split<;>omega
  ·rw[if_neg hl]
   rcases Nat.lt_or_gt_of_ne hl with hx|hx
   ·have:=lt_of_len ws ms h2' k3 hx;omega
   ·have:=lt_of_len ms ws k2 h3 hx;omega
 ·unfold cmpI
  by_cases hl:ws.length=ms.length
  ·rw[if_pos hl]
   split
   ·omega
   ·split<;>omega
  ·rw[if_neg hl]
   rcases Nat.lt_or_gt_of_ne hl with hx|hx
   ·have:=lt_of_len ws ms h2' k3 hx;omega
   ·have:=lt_of_len ms ws k2 h3 hx;omega
 ·unfold cmpI;split
  ·split
   ·omega
   ·split<;>omega
  ·omega
 ·unfold cmpI;split
  ·split
   ·omega
   ·split<;>omega
  ·omega
end Go.Proofs.YtmkkibaacclhnaaGreatDoor
