/-
  A step of the walk, the part named Wd. No theorem of the row.
-/
import Derived.Test.YtmkkibaacclhnaaGreatDoorQde
import Derived.Defers
import Derived.Recover
import Derived.Test.YtmkkibaacclhnaaGreatDoorWs
namespace Go.Proofs.YtmkkibaacclhnaaGreatDoor
open Go.RowKit
set_option maxRecDepth 100000
set_option maxHeartbeats 16000000
theorem catch_gave (B came n X Y:Nat) (y:Value) (S:Nat→Prop) (w0 w:World) (hX:w.cell? ⟨X,0,none⟩=some (.pointer (some ⟨B,0,none⟩))) (hY:w.heap[Y]? =some (.cells #[y] 24 (0,0))) (hYB:Y≠B) (h:PErr B came S w0 w) (hS:S B∨w0.heap.size≤B) (hSY:S Y∨w0.heap.size≤Y):
 CallsD Tryz.prog 48 #[.pointer (some ⟨X,0,none⟩),.pointer (some ⟨Y,0,none⟩)] (.panicking [{v:=.iface 153 (.agg #[.int .i64 (n:Int)]),recovered:=false}]) w fun e u' w'=>
  e=.returned (.tuple #[])∧u'=.panicking [{v:=.iface 153 (.agg #[.int .i64 (n:Int)]),recovered:=true}]∧Gave B came n S w0 w'∧w'.cell? ⟨Y,0,none⟩=some (.int .i64 (n:Int)):=by
 obtain⟨cs,h1,h2,h3,h4⟩:=h;have HG:=hid (giveUp_any B came n (fun i=>i=B) w w ⟨cs,h1,h2,h3,Fr.refl _ _⟩ (.inl rfl));have HY:=hid hY;have HN:=hid hYB;have HSY:=hid hSY;have HS:=hid hS;have HF:=hid h4;clear h1 h2 h3 h4 hY hS hYB hSY;refine callsD_of_wpS Tryz.func48 rfl fun c₀ cs hu=>?_
 apply wpS_seq;apply wpS_region;simp[wpOpsS,go_sem,recoverD,hu,Tryz.ntmps48,Exit.thenS];refine wpS_of_wp ?_;clear hu
 go_wp2_with fail
 refine Calls.mono HG.out ?_;rintro e w2 ⟨rfl,hB,hF⟩;have hy2:=hF.heap HY.out HN.out;have y1:=blk_cell hy2 (show(#[y]:Array Value)[0]? =some y from rfl);have y2:=blk_free (j:=0) hy2
 have HE:=hid (show Gave B came n S w0 (w2.setCell ⟨Y,0,none⟩ (.int .i64 (n:Int)))from
  ⟨(Below.heap_setCell _ _ _ _ (fun e=>HN.out e.symm)).trans hB,(HF.out.trans' hF (fun i h=>by subst h;exact HS.out)).setCell (p:=⟨Y,0,none⟩) HSY.out _⟩)
 have HC:=hid (show(w2.setCell ⟨Y,0,none⟩ (.int .i64 (n:Int))).cell? ⟨Y,0,none⟩=some (.int .i64 (n:Int))from blk_cell (heap_setCell_same w2 Y 0 _ 24 _ hy2) rfl);clear hB hF hy2;go_wp2;simp[bodyPostS,results,Tryz.results48];exact⟨HE.out,HC.out⟩
theorem catch_idle (X Y:Nat) (w:World):
 CallsD Tryz.prog 48 #[.pointer (some ⟨X,0,none⟩),.pointer (some ⟨Y,0,none⟩)] .returning w fun e u' w'=>e=.returned (.tuple #[])∧u'=.returning∧w'=w:=by
 refine callsD_of_wpS Tryz.func48 rfl fun c₀ cs hu=>?_
 apply wpS_seq;apply wpS_region;simp[wpOpsS,go_sem,recoverD,hu,Tryz.ntmps48,Exit.thenS];refine wpS_of_wp ?_;cases c₀;simp only at hu;subst hu;go_wp2;simp[bodyPostS,results,Tryz.results48]
theorem row_lt {w:World} {e size n i:Nat} {v:Value} {xs:List Value} (h:w.ownsRow 0 e size v n xs) (hi:v.ownBlock=some i):i<w.heap.size:=by
 rcases h.2 with⟨rfl,_⟩|⟨g,cap,cur,rfl,_,hg,_⟩
 ·cases hi
 ·simp[Value.ownBlock]at hi
  subst hi;exact lt_of_block hg
theorem PR.lt {B:Nat} {w:World} {vi vo vt vm:Value} {s:Ps} (h:PR B w vi vo vt vm s) {i:Nat} (hi:own B vi vo vt vm i):i<w.heap.size:=by
 rcases hi with rfl|hi|hi|hi|hi
 ·exact lt_of_block h.blk
 ·exact row_lt h.oi hi
 ·exact row_lt h.oo hi
 ·exact row_lt h.ot hi
 ·exact row_lt h.om hi
def FreePanic (Q:Exit→Act→World→Prop):Exit→Act→World→Prop
 |.panic ch,a,w=>∀a':Act,a'.defers=a.defers→Q (.panic ch) a' w
 |e,a,w=>Q e a w
theorem FreePanic.imp {Q:Exit→Act→World→Prop}:∀(e:Exit) (a:Act) (w:World),FreePanic Q e a w→Q e a w:=fun e a w h=>by
 cases e<;>first|exact h|exact h a rfl
theorem wp_region_free {P:Program} {id:Nat} {ops:Array Oper} {b:Bool} {Q:Exit→Act→World→Prop} {a:Act} {w:World} (h:(Code.region id ops b).wp P (FreePanic Q) a w):(Code.region id ops b).wp P Q a w:=
 Code.wp_mono FreePanic.imp h
theorem FreePanic.normal {Q:Exit→Act→World→Prop} {a:Act} {w:World} (h:Q .normal a w):FreePanic Q .normal a w:=h
def KeepPanic (Q:Exit→Act→World→Prop):Exit→Act→World→Prop
 |.panic ch,a,w=>∀a':Act,a'.defers=a.defers→a'.tmps[4]? =a.tmps[4]? →Q (.panic ch) a' w
 |e,a,w=>Q e a w
theorem KeepPanic.imp {Q:Exit→Act→World→Prop}:∀(e:Exit) (a:Act) (w:World),KeepPanic Q e a w→Q e a w:=fun e a w h=>by
 cases e<;>first|exact h|exact h a rfl rfl
theorem wp_region_keep {P:Program} {id:Nat} {ops:Array Oper} {b:Bool} {Q:Exit→Act→World→Prop} {a:Act} {w:World} (h:(Code.region id ops b).wp P (KeepPanic Q) a w):(Code.region id ops b).wp P Q a w:=
 Code.wp_mono KeepPanic.imp h
theorem KeepPanic.put {Q:Exit→Act→World→Prop} {d:Nat} (hd:d≠4) (v:Value) (c:List PanicEntry) (a:Act) (w:World) (h:KeepPanic Q (.panic c) (a.put (some d) v) w):KeepPanic Q (.panic c) a w:=
 fun a' h1 h2=>h a' h1 (h2.trans (by simp[Act.put,hd]))
theorem door_gave (B came n X Y:Nat) (y:Value) (S:Nat→Prop) (w0 w:World) (tmps:Array Value) (h4:tmps[4]? =some (.pointer (some ⟨Y,0,none⟩))) (hX:w.cell? ⟨X,0,none⟩=some (.pointer (some ⟨B,0,none⟩))) (hY:w.heap[Y]? =some (.cells #[y] 24 (0,0))) (hYB:Y≠B) (h:PErr B came S w0 w) (hS:S B∨w0.heap.size≤B) (hSY:S Y∨w0.heap.size≤Y):
 Leaves Tryz.prog Tryz.f31 tmps (fun e w'=>e=.returned (.int .i64 (n:Int))∧Gave B came n S w0 w') [{target:=.fn (.func 48) #[.pointer (some ⟨X,0,none⟩),.pointer (some ⟨Y,0,none⟩)],args:=#[]}] (.panicking [{v:=.iface 153 (.agg #[.int .i64 (n:Int)]),recovered:=false}]) w:=by
 refine leaves_cons (f:=48) (args:=#[.pointer (some ⟨X,0,none⟩),.pointer (some ⟨Y,0,none⟩)]) (by simp) (by simp[go_sem]) ?_;refine(catch_gave B came n X Y y S w0 w hX hY hYB h hS hSY).mono ?_;rintro e u' w'' ⟨rfl,rfl,hG,hc⟩;simp[Leaves,settle,results,Tryz.results31,go_sem,h4,hc];exact hG
theorem door_idle (X Y:Nat) (w:World) (tmps:Array Value) (R:World→Prop) (y:Value) (h4:tmps[4]? =some (.pointer (some ⟨Y,0,none⟩))) (hY:w.cell? ⟨Y,0,none⟩=some y) (hR:R w):
 Leaves Tryz.prog Tryz.f31 tmps (fun e w'=>e=.returned y∧R w') [{target:=.fn (.func 48) #[.pointer (some ⟨X,0,none⟩),.pointer (some ⟨Y,0,none⟩)],args:=#[]}] .returning w:=by
 refine leaves_cons (f:=48) (args:=#[.pointer (some ⟨X,0,none⟩),.pointer (some ⟨Y,0,none⟩)]) (by simp) (by simp[go_sem]) ?_;refine(catch_idle X Y w).mono ?_;rintro e u' w'' ⟨rfl,rfl,rfl⟩;simp[Leaves,settle,results,Tryz.results31,go_sem,h4,hY];exact hR
theorem PC.on {B:Nat} {S:Nat→Prop} {w0 W W':World} {vi vo vt vm ui uo ut um:Value} {s s':Ps} (h:PC B S w0 vi vo vt vm W s) (k:PC B (own B vi vo vt vm) W ui uo ut um W' s'):PC B S w0 ui uo ut um W' s':=by
 refine⟨k.pr,h.fr.trans' k.fr h.ow,fun i hi=>?_⟩;rcases k.ow i hi with h1|h1
 ·exact h.ow i h1
 ·have:=h.fr.size
  exact .inr (by omega)
theorem PC.other {B:Nat} {S:Nat→Prop} {w0 W:World} {vi vo vt vm:Value} {s:Ps} {Y:Nat} (h:PC B S w0 vi vo vt vm W s) (hn:¬own B vi vo vt vm Y) (hS:S Y∨w0.heap.size≤Y) (u:Value):PC B S w0 vi vo vt vm (W.setCell ⟨Y,0,none⟩ u) s:=by
 obtain⟨⟨a,b,c,d,e,f⟩,g,k⟩:=h;refine⟨⟨?_,rowSetOther b (fun h=>hn (.inr (.inl h))) u,rowSetOther c (fun h=>hn (.inr (.inr (.inl h)))) u,rowSetOther d (fun h=>hn (.inr (.inr (.inr (.inl h))))) u,rowSetOther e (fun h=>hn (.inr (.inr (.inr (.inr h))))) u,f⟩,g.setCell (p:=⟨Y,0,none⟩) hS u,k⟩;exact(Below.heap_setCell W ⟨Y,0,none⟩ u B (fun e=>hn (.inl e.symm))).trans a
def FInv (B:Nat) (S:Nat→Prop) (w1:World) (came m k:Nat) (R:Except (Nat×Nat) Ps) (r:List UInt8) (j:Nat) (wr:World):Prop:=
 ∃vi vo vt vm s',PC B S w1 vi vo vt vm wr s'∧Qv s' vt vm∧PsOk s' (m+3*j) (k+j)∧s'.came=came+j∧R=psRun s' r
theorem feed_run (B:Nat) (vi vo vt vm:Value) (s:Ps) (m k:Nat) (l:List UInt8) (R:Except (Nat×Nat) Ps) (w:World) (h:PR B w vi vo vt vm s) (hq:Qv s vt vm) (hok:PsOk s m k) (hm:m+3*l.length≤5000000) (hk:k+l.length≤10000000) (hc:s.came≤10000000) (hR:R=psRun s l):
 Calls Tryz.prog 31 #[.pointer (some ⟨B,0,none⟩),.string (ofL l)] w fun e w'=>e=.returned (.int .i64 ((errOf R:Nat):Int))∧Rd B (own B vi vo vt vm) w w' R:=by
 have hmf:∀(fn:Fn) (first cap:Array Value) (w:World),(Instr.makeFunc fn first cap).run Tryz.prog w=.ok (.func fn first cap) w:=fun _ _ _ _=>rfl
 have hsz:=ofL_size l;have hBl:=lt_of_block h.blk;have k3:∀a b,((w.alloc a).alloc b).cell? ⟨B,3,none⟩=some (.bool false):=fun a b=>blk_cell (T:=113) (((Below.heap_alloc (w.alloc a) b B (by simp;omega)).trans (Below.heap_alloc w a B hBl)).trans h.blk) rfl
 have k2:∀a b,((w.alloc a).alloc b).cell? ⟨B,2,none⟩=some (.int .i64 0):=fun a b=>blk_cell (T:=113) (((Below.heap_alloc (w.alloc a) b B (by simp;omega)).trans (Below.heap_alloc w a B hBl)).trans h.blk) rfl
 have hFa:∀a b,Fr (fun _=>False) w ((w.alloc a).alloc b):=fun a b=>((Fr.refl _ _).alloc a).alloc b
 obtain⟨w1,hw1⟩:∃w1,w1=(w.alloc (.cells #[.pointer (some ⟨B,0,none⟩)] 74)).alloc (.cells #[.int .i64 0] 24):=⟨_,rfl⟩;have hF1:Fr (fun _=>False) w w1:=by rw[hw1];exact hFa _ _
 have hP0:=(PC.start h).same hF1;have hP1:=PC.start hP0.pr
 have hx1:w1.heap[w.heap.size]? =some (.cells #[.pointer (some ⟨B,0,none⟩)] 74 (0,0)):=by
  rw[hw1,Below.heap_alloc _ _ _ (by simp)];exact heap_alloc_new _ _
 have hy1:w1.heap[w.heap.size+1]? =some (.cells #[.int .i64 0] 24 (0,0)):=by
  rw[hw1];have:=heap_alloc_new (w.alloc (.cells #[.pointer (some ⟨B,0,none⟩)] 74)) (.cells #[.int .i64 0] 24);simpa using this
 have hnX:¬own B vi vo vt vm w.heap.size:=fun hh=>by have:=h.lt hh;omega
 have hnY:¬own B vi vo vt vm (w.heap.size+1):=fun hh=>by have:=h.lt hh;omega
 have HI0:=hid (show FInv B (own B vi vo vt vm) w1 s.came m k R (l.drop 0) 0 w1 from⟨vi,vo,vt,vm,s,hP1,hq,hok,rfl,hR⟩);have HX:=hid (And.intro hx1 hnX);have HY:=hid (And.intro hy1 hnY);have HP:=hid hP0;clear h hq hok hP0 hP1 hx1 hy1 hnX hnY hF1 hFa hR;have HW:=hid hw1;clear hw1
 go_enter_defers Tryz.func31,Tryz.ntmps31
 go_wp2;rw[←HW.out]
 go_loopw [22] (fun i wr=>∃j:Nat,j≤l.length∧i=.int .i64 j∧Hid (FInv B (own B vi vo vt vm) w1 s.came m k R (l.drop j) j wr)) (fun i _=>l.length-(intOf i).toNat)
 case atStart=>exact⟨0,by omega,rfl,HI0⟩
 case round=>
  obtain⟨j,hj,rfl,hI⟩:=hrel;obtain⟨ui,uo,ut,um,s',hC,hQ,hO,hcm,hR⟩:=hI.out;have cX:=blk_cell (hC.fr.heap HX.out.1 HX.out.2) (show(#[.pointer (some ⟨B,0,none⟩)]:Array Value)[0]? =some (.pointer (some ⟨B,0,none⟩))from rfl);have cY:=hC.fr.heap HY.out.1 HY.out.2;by_cases hlt:j<l.length
  ·have hg:(ofL l)[j]'(by rw[hsz];exact hlt)=l[j]:=ofL_get l j _
   have hd:l.drop j=l[j]::l.drop (j+1):=List.drop_eq_getElem_cons hlt;rw[hd,psRun]at hR;have HT:=hid (take_any B ui uo ut um s' _ _ l[j] wr.drew hC.drew.pr hQ hO (by omega) (by omega));cases hx:psTake s' l[j]with
   |ok s2=>
    rw[hx]at HT hR;simp only at hR;have HR:=hid hR;have HCm:=hid (show s2.came=s.came+j from(psTake_came hx).trans hcm);have HO:=hid (psMore_ok (psTake_ok hO hx));have HC:=hid hC.drew;generalize l[j]=c at*;clear hR hI hQ hO hcm hC cY hx hd k2 k3;go_wp2;refine wp_region_free ?_
    go_region_with (refine Calls.mono HT.out ?_;rintro e w2 ⟨rfl,hp⟩;obtain⟨ai,ao,at',am,hC2,hQ2⟩:=HC.out.trans hp;have cX2:=blk_cell (hC2.fr.heap HX.out.1 HX.out.2) (show(#[.pointer (some ⟨B,0,none⟩)]:Array Value)[0]? =some (.pointer (some ⟨B,0,none⟩))from rfl);have j1:=blk_cell hC2.pr.blk (show(psCells s2 ai ao at' am)[1]? =some (.int .i64 (s2.came:Int))from rfl);have f1:=blk_free (j:=1) hC2.pr.blk;have hcb:s2.came≤20000000:=(by rw[HCm.out];omega);have HC2:=hid hC2;have HQ2:=hid hQ2;clear hC2 hQ2 hp)
    all_goals
     refine FreePanic.normal ?_;go_wp2;go_roundw
     case rel=>exact⟨j+1,by omega,by go_num,hid ⟨ai,ao,at',am,psMore s2,HC2.out.cell 1 _ (psMore s2) rfl rfl rfl rfl rfl,HQ2.out,HO.out,by show s2.came+1=_;rw[HCm.out];omega,HR.out⟩⟩
     case measure=>simp[intOf];omega
   |error n=>
    rw[hx]at HT hR;simp only at hR;subst hR;have HC:=hid hC.drew;have HCY:=hid cY;generalize l[j]=c at*;clear hI hQ hO hcm hC cY hx hd k2 k3;go_wp2;refine wp_region_keep ?_;refine wp_region_any (by kernel_rfl) ?_
    change wpAny _ _ _ _ _ _ _ (World.drew _)
    refine wpAny_take (i:=1) (v:=?_) rfl (by kernel_rfl) (by kernel_rfl) (by kernel_rfl) (fun c a w h=>KeepPanic.put (d:=26) (by decide) _ c a w h) (Or.inl ⟨by rfl,?_⟩) ?_
    rotate_left
    ·(intro w;go_simp;try with_reducible rfl)
    refine wpAny_take (i:=2) (v:=?_) rfl (by kernel_rfl) (by kernel_rfl) (by kernel_rfl) (fun c a w h=>KeepPanic.put (d:=27) (by decide) _ c a w h) (Or.inl ⟨by rfl,?_⟩) ?_
    rotate_left
    ·(intro w;go_simp;try with_reducible rfl)
    refine wpAny_take (i:=3) (v:=?_) rfl (by kernel_rfl) (by kernel_rfl) (by kernel_rfl) (fun c a w h=>KeepPanic.put (d:=28) (by decide) _ c a w h) (Or.inl ⟨by rfl,?_⟩) ?_
    rotate_left
    ·(intro w;go_simp;try with_reducible rfl)
    refine wpAny_ready (rs:=[0]) (by kernel_rfl) (by simp) ?_;refine AllReady.cons rfl (fun K hK=>?_) AllReady.nil
    go_simp
    refine hK _ _ ?_;clear hK K;refine wpAny_ready (rs:=[4]) (by kernel_rfl) (by simp) ?_;refine AllReady.cons rfl (fun K hK=>?_) AllReady.nil
    go_simp
    refine Calls.mono HT.out ?_;rintro e w2 ⟨rfl,hE⟩
    show∀a':Act,_→_→Leaves _ _ _ _ _ _ _
    intro a' h1 h2;rw[h1];have hE1:=HC.out.errs hE;have hE2:=HP.out.errs hE1;obtain⟨_,_,_,_,hF2⟩:=hE1;exact door_gave B s'.came n w.heap.size (w.heap.size+1) (.int .i64 0) (own B vi vo vt vm) w w2 a'.tmps (h2.trans rfl) (blk_cell (hF2.heap HX.out.1 HX.out.2) rfl) (hF2.heap HY.out.1 HY.out.2) (by omega) hE2 (.inl (.inl rfl)) (.inr (by omega))
  ·obtain rfl:j=l.length:=by omega
   rw[List.drop_length,psRun]at hR;subst hR;have y1:=blk_cell cY (show(#[.int .i64 0]:Array Value)[0]? =some (.int .i64 0)from rfl);have y2:=blk_free (j:=0) cY
   have hny:¬own B ui uo ut um (w.heap.size+1):=fun hh=>by
    have:=lt_of_block HY.out.1;rcases hC.ow _ hh with h|h
    ·exact HY.out.2 h
    ·omega
   have HD:=hid (show Rd B (own B vi vo vt vm) w (wr.setCell ⟨w.heap.size+1,0,none⟩ (.int .i64 0)) (.ok s')from
    ⟨ui,uo,ut,um,(HP.out.on hC).other hny (.inr (by omega)) _,hQ⟩)
   have HY3:=hid (show(wr.setCell ⟨w.heap.size+1,0,none⟩ (.int .i64 0)).cell? ⟨w.heap.size+1,0,none⟩=some (.int .i64 0)from blk_cell (heap_setCell_same wr (w.heap.size+1) 0 _ 24 _ cY) rfl);clear hI hQ hO hcm hC cY hny k2 k3;go_wp2;exact door_idle w.heap.size (w.heap.size+1) _ _ (fun w'=>Rd B (own B vi vo vt vm) w w' (.ok s')) (.int .i64 0) rfl HY3.out HD.out
def Cf (cf:Nat→Nat→Int) (R:Nat→Nat→Prop) (x y:Nat):Prop:=(cf y x<0→R y x)∧(¬cf y x<0→R x y)
def CmpAt (w0:World) (blk:Nat) (cb:Array Value) (D:Nat→Prop) (cf:Nat→Nat→Int):Prop:=
 ∀x y,D x→D y→∀w,Fr (fun i=>i=blk) w0 w→Calls Tryz.prog 129 (#[.int .i64 (x:Int),.int .i64 (y:Int)]++cb) w fun e w'=>e=.returned (.int .i64 (cf x y))∧∃k,w'=w.drewN k
theorem ins_mid {R:Nat→Nat→Prop} {L G:List Nat} {x:Nat} (hs:(L++G).Pairwise R) (hG:∀g,g∈G→R x g) (hL:∀y,y∈L→R y x):(L++x::G).Pairwise R:=by
 rw[List.pairwise_append]at hs ⊢;obtain⟨h1,h2,h3⟩:=hs;refine⟨h1,List.pairwise_cons.2 ⟨hG,h2⟩,fun y hy z hz=>?_⟩;rcases List.mem_cons.1 hz with rfl|hz
 ·exact hL y hy
 ·exact h3 y hy z hz
theorem last_all {R:Nat→Nat→Prop} (tr:∀x y z,R x y→R y z→R x z) {L G:List Nat} {x y:Nat} (hs:(L++[y]++G).Pairwise R) (h:R y x):∀z,z∈L++[y]→R z x:=by
 intro z hz;rw[List.pairwise_append,List.pairwise_append]at hs;rcases List.mem_append.1 hz with hz|hz
 ·exact tr _ _ _ (hs.1.2.2 z hz y (by simp)) h
 ·simp at hz;subst hz;exact h
theorem snoc_or (L:List Nat):L=[]∨∃L' y,L=L'++[y]:=by
 rcases List.eq_nil_or_concat L with h|⟨L',y,h⟩
 ·exact .inl h
 ·exact .inr ⟨L',y,by simpa using h⟩
theorem insertion_any (w0 w:World) (blk n cap a b bx:Nat) (D:Nat→Prop) (cf:Nat→Nat→Int) (R:Nat→Nat→Prop) (tr:∀x y z,R x y→R y z→R x z) (X Z Y:List Nat) (h:DR w0 w blk n cap (X++Z++Y)) (hX:X.length=a) (hb:a+Z.length=b) (hZ:Z.Pairwise (Cf cf R)) (hD:∀x,x∈Z→D x)
 (hC:CmpAt w0 blk #[.pointer (some ⟨bx,0,none⟩)] D cf) (hn:n≤10000000):
 Calls Tryz.prog 202 #[.slice (some ⟨blk,0,none⟩) n cap,.int .i64 (a:Int),.int .i64 (b:Int),.func (.func 129) #[] #[.pointer (some ⟨bx,0,none⟩)]] w fun e w'=>e=.returned (.tuple #[])∧∃Z',Z'.Perm Z∧Z'.Pairwise R∧DR w0 w' blk n cap (X++Z'++Y):=by
 have hlen:=h.len;simp only[List.length_append]at hlen;have H:=hid h;have HX:=hid (And.intro hX hb);have HZ:=hid hZ;have HDm:=hid hD;have HC:=hid hC;have HTR:=hid tr;have han:a≤10000000:=by omega
 have hbn:b≤10000000:=by omega
 have hbN:b≤n:=by omega
 have mixed:=Tryz.mixedR;by_cases hz:Z=[]
 ·subst hz
  have hba:¬((a:Int)+1<(b:Int)):=by simp at hb;omega
  clear h hX hb hZ hD hC hlen;go_enter Tryz.func202,Tryz.ntmps202;go_wp2
  go_loopw [8] (fun s wr=>s=.int .i64 ((a:Int)+1)∧wr=w) (fun _ _=>0)
  case atStart=>exact⟨by go_num,rfl⟩
  case round=>
   obtain⟨rfl,rfl⟩:=hrel;go_wp2;go_end0;exact⟨rfl,[],List.Perm.refl _,List.Pairwise.nil,H.out⟩
 ·obtain⟨z0,Zr,hZe⟩:∃z0 Zr,Z=z0::Zr:=by
   cases Z with
   |nil=>exact absurd rfl hz
   |cons z0 Zr=>exact⟨z0,Zr,rfl⟩
  have HS:Hid (∃Z1 Z2 Z1',Z=Z1++Z2∧X.length+Z1.length=a+1∧Z1'.Perm Z1∧Z1'.Pairwise R∧DR w0 w blk n cap (X++Z1'++Z2++Y)):=
   hid ⟨[z0],Zr,[z0],by rw[hZe];rfl,by simp[hX],List.Perm.refl _,List.pairwise_singleton _ _,by rw[hZe]at h;simpa using h⟩
  have hab:a+1≤b:=by rw[hZe]at hb;simp at hb;omega
  clear h hX hb hZ hD hC hlen hz hZe;go_enter Tryz.func202,Tryz.ntmps202;go_wp2
  go_loopw [8] (fun s wr=>∃i:Nat,a<i∧i≤b∧s=.int .i64 (i:Int)∧Hid (∃Z1 Z2 Z1',Z=Z1++Z2∧X.length+Z1.length=i∧Z1'.Perm Z1∧Z1'.Pairwise R∧DR w0 wr blk n cap (X++Z1'++Z2++Y))) (fun s _=>b-(intOf s).toNat)
  case atStart=>exact⟨a+1,by omega,by omega,by go_num,HS⟩
  case round=>
   clear HS;obtain⟨i,hai,hib,rfl,hI⟩:=hrel;by_cases hlt:i<b
   ·obtain⟨Z1,Z2,Z1',hZ12,hi1,hp,hs,hd⟩:=hI.out
    obtain⟨x,Z3,rfl⟩:∃x Z3,Z2=x::Z3:=by
     cases Z2 with
     |nil=>have h1:=HX.out;rw[hZ12]at h1;simp at h1;omega
     |cons x Z3=>exact⟨x,Z3,rfl⟩
    have HI:=hid (And.intro hZ12 (And.intro hi1 (And.intro hp hs)))
    have HJ:Hid (∃L G,L++G=Z1'∧X.length+L.length=i∧(∀g,g∈G→R x g)∧DR w0 wr blk n cap (X++L++x::G++Z3++Y)):=
     hid ⟨Z1',[],by simp,by rw[hp.length_eq];exact hi1,by simp,by simpa using hd⟩
    have HXD:Hid (D x∧∀y,y∈Z1'→D y∧Cf cf R y x):=hid (by
     have h1:=HZ.out;rw[hZ12,List.pairwise_append]at h1;refine⟨HDm.out x (by rw[hZ12];simp),fun y hy=>?_⟩;have hy1:=hp.mem_iff.1 hy
     exact⟨HDm.out y (by rw[hZ12];simp[hy1]),h1.2.2 y hy1 x (by simp)⟩)
    clear hZ12 hi1 hp hs hd hI;go_wp2
    go_loopw [9] (fun s wr2=>∃j:Nat,a≤j∧j≤i∧s=.int .i64 (j:Int)∧Hid (∃L G,L++G=Z1'∧X.length+L.length=j∧(∀g,g∈G→R x g)∧DR w0 wr2 blk n cap (X++L++x::G++Z3++Y))) (fun s _=>(intOf s).toNat)
    case atStart=>exact⟨i,by omega,by omega,rfl,HJ⟩
    case round=>
     clear HJ;obtain⟨j,haj,hji,rfl,hJ⟩:=hrel;obtain⟨L,G,hLG,hj,hG,hd⟩:=hJ.out;clear hJ;rcases snoc_or L with rfl|⟨L',y,rfl⟩
     ·
      have hja:j=a:=by have h1:=HX.out;simp at hj;omega
      subst hja;have hng:¬((j:Int)<(j:Int)):=by omega
      have c1:=hd.cell j x (by have:=get_fst X (G++Z3++Y) x;simp at hj;rw[hj]at this;simpa using this)
      have HE:Hid (∃Z1 Z2 Z1',Z=Z1++Z2∧X.length+Z1.length=i+1∧Z1'.Perm Z1∧Z1'.Pairwise R∧∀k,DR w0 (wr.drewN k) blk n cap (X++Z1'++Z2++Y)):=hid (by
       obtain⟨h1,h2,h3,h4⟩:=HI.out;simp at hLG;subst hLG;refine⟨Z1++[x],Z3,x::G,by simpa using h1,by simp;omega,?_,ins_mid (L:=[]) (by simpa using h4) hG (by simp),fun k=>by simpa using hd.drewN k⟩
       exact(List.Perm.cons x h3).trans (by simpa using(List.perm_append_comm (l₁:=[x]) (l₂:=Z1))))
      clear hd hG hLG hj;go_wp2;go_quiet (fail);go_wp2;go_roundw
      case rel=>
       obtain⟨A1,A2,A3,q1,q2,q3,q4,q5⟩:=HE.out;exact⟨i+1,by omega,by omega,by go_num,hid ⟨A1,A2,A3,q1,q2,q3,q4,q5 _⟩⟩
      case measure=>simp[intOf];omega
     ·rw[List.length_append]at hj
      simp only[List.length_singleton]at hj;obtain⟨p,hp⟩:∃p,X.length+L'.length=p:=⟨_,rfl⟩;have hjp:j=p+1:=by omega
      subst hjp;have hgt:(a:Int)<(p:Int)+1:=by have h1:=HX.out;omega
      have hd':DR w0 wr blk n cap ((X++L')++y::([]++x::(G++Z3++Y))):=by simpa using hd
      have e1:(X++L').length=p:=by rw[List.length_append];exact hp
      have c1:=hd'.cell p y (by rw[←e1];exact get_fst _ _ _);have c2:=hd'.cell (p+1) x (by have:=get_snd (X++L') [] (G++Z3++Y) y x;rw[e1]at this;simpa using this);have f1:=hd'.free p;have f2:=hd'.free (p+1);have hpn:p+1<n:=by omega
      have hpz:(p:Int)+1<(n:Int):=by omega
      have hpz0:(p:Int)<(n:Int):=by omega
      have HCM:=hid (fun k=>HC.out x y HXD.out.1 ((HXD.out.2 y (by rw[←hLG];simp)).1) (wr.drewN k) (hd.fr.drewN k));have HCF:=hid ((HXD.out.2 y (by rw[←hLG];simp)).2);have hw1:IntKind.i64.wrap ((p:Int)+1)=(p:Int)+1:=IntWalk.i64_in _ (by omega);have hsub:(p:Int)+1-1=(p:Int):=by omega
      by_cases hc:cf x y<0
      ·have HR:=hid (HCF.out.1 hc)
       have hcd:decide (cf x y<0)=true:=decide_eq_true hc;have HLG:=hid hLG;have HGG:=hid hG;have HPP:=hid hp;have HDD:=hid (fun k=>hd'.drewN k);clear hd hd' hLG hG hj e1
       go_wp2_with fail
       go_quiet ((go_at_call 129;exact Calls.quiet_of (HCM.out _)));have hd2:=HDD.out nq;generalize wr.drewN nq=w2 at hd2 ⊢;have e1:(X++L').length=p:=by rw[List.length_append];exact HPP.out
       have d1:=hd2.cell p y (by rw[←e1];exact get_fst _ _ _);have d2:=hd2.cell (p+1) x (by have:=get_snd (X++L') [] (G++Z3++Y) y x;rw[e1]at this;simpa using this);have g1:=hd2.free p;have g2:=hd2.free (p+1)
       have d3:(w2.setCell ⟨blk,p+1,none⟩ (.int .i64 (y:Int))).cell? ⟨blk,p,none⟩=some (.int .i64 (y:Int)):=by
        rw[World.cell?_setCell_other _ _ _ _ (by intro e;simp only[Addr.mk.injEq]at e;omega)];exact d1
       have g3:(w2.setCell ⟨blk,p+1,none⟩ (.int .i64 (y:Int))).frozen? ⟨blk,p,none⟩=false:=by rw[World.frozen?_setCell];exact g1
       have S2:=hid (hd2.swap' p (p+1) e1.symm (by rw[e1];rfl));clear c1 c2 f1 f2 hd2 e1 hcd hc HCM
       go_wp2_with fail
       go_big_region_o
       go_wp2;go_roundw
       case rel=>
        refine⟨p,by omega,by omega,by go_num,hid ⟨L',y::G,by rw[←HLG.out];simp,HPP.out,?_,by simpa using S2.out.drew⟩⟩;intro z hz;rcases List.mem_cons.1 hz with rfl|hz
        ·exact HR.out
        ·exact HGG.out z hz
       case measure=>first|done|(simp[intOf];done)|(simp[intOf];omega)
      ·have hcd:decide (cf x y<0)=false:=decide_eq_false hc
       have HE:Hid (∃Z1 Z2 Z1',Z=Z1++Z2∧X.length+Z1.length=i+1∧Z1'.Perm Z1∧Z1'.Pairwise R∧∀k,DR w0 (wr.drewN k) blk n cap (X++Z1'++Z2++Y)):=hid (by
        obtain⟨h1,h2,h3,h4⟩:=HI.out;have hyx:=HCF.out.2 hc;rw[←hLG]at h3 h4;refine⟨Z1++[x],Z3,(L'++[y])++x::G,by simpa using h1,by simp;omega,?_,ins_mid h4 hG (last_all HTR.out h4 hyx),fun k=>by simpa using hd.drewN k⟩;have q1:((L'++[y])++x::G).Perm (x::((L'++[y])++G)):=List.perm_middle
        exact q1.trans ((List.Perm.cons x h3).trans (by simpa using(List.perm_append_comm (l₁:=[x]) (l₂:=Z1)))))
       clear hd hd' hLG hG hj e1
       go_wp2_with fail
       go_quiet ((go_at_call 129;exact Calls.quiet_of (HCM.out _)));go_wp2;go_roundw
       case rel=>
        obtain⟨A1,A2,A3,q1,q2,q3,q4,q5⟩:=HE.out;exact⟨i+1,by omega,by omega,by go_num,hid ⟨A1,A2,A3,q1,q2,q3,q4,q5 _⟩⟩
       case measure=>simp[intOf];omega
   ·obtain⟨Z1,Z2,Z1',hZ12,hi1,hp,hs,hd⟩:=hI.out
    have hZ2:Z2=[]:=by
     have h1:=HX.out;rw[hZ12,List.length_append]at h1;exact List.eq_nil_of_length_eq_zero (by omega)
    subst hZ2;have HF:=hid (show∃Z',Z'.Perm Z∧Z'.Pairwise R∧DR w0 wr blk n cap (X++Z'++Y)from⟨Z1',by rw[hZ12];simpa using hp,hs,by simpa using hd⟩);clear hZ12 hi1 hp hs hd hI;go_wp2;go_end0;exact⟨rfl,HF.out⟩
end Go.Proofs.YtmkkibaacclhnaaGreatDoor
