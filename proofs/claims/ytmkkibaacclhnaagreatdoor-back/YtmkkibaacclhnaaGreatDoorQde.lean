/-
  A step of the walk, the part named Qde. No theorem of the row.
-/
import Derived.Test.YtmkkibaacclhnaaGreatDoorPyz
import Derived.Test.YtmkkibaacclhnaaGreatDoorPvx
import Derived.Test.YtmkkibaacclhnaaGreatDoorWa
import Derived.Test.YtmkkibaacclhnaaGreatDoorRc
namespace Go.Proofs.YtmkkibaacclhnaaGreatDoor
open Go.RowKit
set_option maxRecDepth 100000
set_option maxHeartbeats 16000000
theorem take6 (B:Nat) (S:Nat→Prop) (vi vo vt vm:Value) (s:Ps) (r:Except Nat Ps) (c:UInt8) (w:World) (h:PR B w vi vo vt vm s) (hst:s.st=6) (hs:Calls Tryz.prog 81 #[.pointer (some ⟨B,0,none⟩),.int .u8 (c.toNat:Int)] w (PDone B s.came S w r)):
 Calls Tryz.prog 50 #[.pointer (some ⟨B,0,none⟩),.int .u8 (c.toNat:Int)] w (PDone B s.came S w r):=by
 have k4:=blk_cell h.blk (show(psCells s vi vo vt vm)[4]? =some (.int .i64 (s.st:Int))from rfl);rw[hst]at k4;clear h hst;cases r with
 |error n=>
  have HQ:=hid hs;clear hs;go_enter Tryz.func50,Tryz.ntmps50
  go_wp2_with fail
  refine Calls.mono HQ.out ?_;rintro e w2 ⟨rfl,hF⟩;exact⟨rfl,rfl,hF⟩
 |ok s'=>
  have HQ:=hid hs;clear hs;go_enter Tryz.func50,Tryz.ntmps50
  go_wp2_with fail
  refine Calls.mono HQ.out ?_;rintro e w2 ⟨rfl,hp⟩;have HR:=hid hp;clear hp;go_wp2;go_end0;exact⟨rfl,HR.out⟩
theorem take7 (B:Nat) (S:Nat→Prop) (vi vo vt vm:Value) (s:Ps) (r:Except Nat Ps) (c:UInt8) (w:World) (h:PR B w vi vo vt vm s) (hst:s.st=7) (hs:Calls Tryz.prog 82 #[.pointer (some ⟨B,0,none⟩),.int .u8 (c.toNat:Int)] w (PDone B s.came S w r)):
 Calls Tryz.prog 50 #[.pointer (some ⟨B,0,none⟩),.int .u8 (c.toNat:Int)] w (PDone B s.came S w r):=by
 have k4:=blk_cell h.blk (show(psCells s vi vo vt vm)[4]? =some (.int .i64 (s.st:Int))from rfl);rw[hst]at k4;clear h hst;cases r with
 |error n=>
  have HQ:=hid hs;clear hs;go_enter Tryz.func50,Tryz.ntmps50
  go_wp2_with fail
  refine Calls.mono HQ.out ?_;rintro e w2 ⟨rfl,hF⟩;exact⟨rfl,rfl,hF⟩
 |ok s'=>
  have HQ:=hid hs;clear hs;go_enter Tryz.func50,Tryz.ntmps50
  go_wp2_with fail
  refine Calls.mono HQ.out ?_;rintro e w2 ⟨rfl,hp⟩;have HR:=hid hp;clear hp;go_wp2;go_end0;exact⟨rfl,HR.out⟩
theorem take8 (B:Nat) (S:Nat→Prop) (vi vo vt vm:Value) (s:Ps) (r:Except Nat Ps) (c:UInt8) (w:World) (h:PR B w vi vo vt vm s) (hst:s.st=8) (hs:Calls Tryz.prog 83 #[.pointer (some ⟨B,0,none⟩),.int .u8 (c.toNat:Int)] w (PDone B s.came S w r)):
 Calls Tryz.prog 50 #[.pointer (some ⟨B,0,none⟩),.int .u8 (c.toNat:Int)] w (PDone B s.came S w r):=by
 have k4:=blk_cell h.blk (show(psCells s vi vo vt vm)[4]? =some (.int .i64 (s.st:Int))from rfl);rw[hst]at k4;clear h hst;cases r with
 |error n=>
  have HQ:=hid hs;clear hs;go_enter Tryz.func50,Tryz.ntmps50
  go_wp2_with fail
  refine Calls.mono HQ.out ?_;rintro e w2 ⟨rfl,hF⟩;exact⟨rfl,rfl,hF⟩
 |ok s'=>
  have HQ:=hid hs;clear hs;go_enter Tryz.func50,Tryz.ntmps50
  go_wp2_with fail
  refine Calls.mono HQ.out ?_;rintro e w2 ⟨rfl,hp⟩;have HR:=hid hp;clear hp;go_wp2;go_end0;exact⟨rfl,HR.out⟩
theorem take9 (B:Nat) (S:Nat→Prop) (vi vo vt vm:Value) (s:Ps) (r:Except Nat Ps) (c:UInt8) (w:World) (h:PR B w vi vo vt vm s) (hst:s.st=9) (hs:Calls Tryz.prog 83 #[.pointer (some ⟨B,0,none⟩),.int .u8 (c.toNat:Int)] w (PDone B s.came S w r)):
 Calls Tryz.prog 50 #[.pointer (some ⟨B,0,none⟩),.int .u8 (c.toNat:Int)] w (PDone B s.came S w r):=by
 have k4:=blk_cell h.blk (show(psCells s vi vo vt vm)[4]? =some (.int .i64 (s.st:Int))from rfl);rw[hst]at k4;clear h hst;cases r with
 |error n=>
  have HQ:=hid hs;clear hs;go_enter Tryz.func50,Tryz.ntmps50
  go_wp2_with fail
  refine Calls.mono HQ.out ?_;rintro e w2 ⟨rfl,hF⟩;exact⟨rfl,rfl,hF⟩
 |ok s'=>
  have HQ:=hid hs;clear hs;go_enter Tryz.func50,Tryz.ntmps50
  go_wp2_with fail
  refine Calls.mono HQ.out ?_;rintro e w2 ⟨rfl,hp⟩;have HR:=hid hp;clear hp;go_wp2;go_end0;exact⟨rfl,HR.out⟩
theorem take_any (B:Nat) (vi vo vt vm:Value) (s:Ps) (m k:Nat) (c:UInt8) (w:World) (h:PR B w vi vo vt vm s) (hq:Qv s vt vm) (hok:PsOk s m k) (hm:m≤5000000) (hk:k≤10000000):
 Calls Tryz.prog 50 #[.pointer (some ⟨B,0,none⟩),.int .u8 (c.toNat:Int)] w (PDone B s.came (own B vi vo vt vm) w (psTake s c)):=by
 unfold psTake;by_cases h6:s.st=6
 ·rw[if_pos h6]
  refine take6 B _ vi vo vt vm s _ c w h h6 ?_;have hw:=hok.wrd h6;have hl:=hok.c.wln;have h1:=hok.c.iln;have h2:=hok.c.oln;cases hx:s.word with
  |nil=>exact absurd hx hw
  |cons x r=>
   rw[hx]at hl;simp at hl;exact takeOfWord_any B vi vo vt vm s x r c w h ⟨hq.1 (by omega),hq.2 (by omega) (by omega)⟩ hx (by omega) (hok.c.ok (by omega)) (by omega) (by omega)
 rw[if_neg h6];by_cases h7:s.st=7
 ·rw[if_pos h7]
  refine take7 B _ vi vo vt vm s _ c w h h7 ?_;by_cases hb:beh s.tok.st c=0
  ·exact takeOfToken_behind B vi vo vt vm s m k c w h (hq.2 (by omega) (by omega)) hok hm hk h7 hb
  ·exact takeOfToken_on B vi vo vt vm s m k c w h (hq.2 (by omega) (by omega)) hok hk h7 hb
 rw[if_neg h7];by_cases h8:s.st=8∨s.st=9
 ·rw[if_pos h8]
  have hs:=takeOfText_any B vi vo vt vm s m k c w h (hq.1 h7) h8 hok hm hk;rcases h8 with h8|h8
  ·exact take8 B _ vi vo vt vm s _ c w h h8 hs
  ·exact take9 B _ vi vo vt vm s _ c w h h8 hs
 ·rw[if_neg h8]
  have:=hok.st;exact take_out B vi vo vt vm s m k c w h ⟨hq.1 h7,hq.2 (fun h=>h8 (.inl h)) (fun h=>h8 (.inr h))⟩ hok (by omega) (by omega)
theorem step_store_row {P:Program} {ops:Array Oper} {o:Oper} {a:Act} {w:World} {K:Act→World→Prop} {Q:Exit→Act→World→Prop} {E:Prop}
 (hgd:o.guard=none) (ty:TypeId) (x y:Operand) (ho:o.op=.store ty x y) (g:Nat) (cells:Array Value) (hx:a.eval x=.pointer (some ⟨g,0,none⟩)) (hy:a.eval y=.agg cells)
 (t:TypeId) (old:Array Value) (hg:w.heap[g]? =some (.cells old t (0,0))) (hi:(P.info? ty).map (·.size)=some cells.size) (hold:old.size=cells.size) (h1:cells.all (·.oneCell')=true)
 (h:K (a.put o.dst undef) (w.setRow g cells)):if Region.wanted o (yielded ops a.tmps)=true then Oper.wp P o a w K Q else E:=by
 have hw:Region.wanted o (yielded ops a.tmps)=true:=by simp[Region.wanted,hgd]
 rw[if_pos hw];exact wp_store_row ty x y ho g cells hx hy t old hg hi hold h1 h
def wrongCells (came n:Int):Array Value:=
 #[.int .i64 0,.int .i64 came,.int .i64 n,.bool false,.int .i64 0,.slice none 0 0,.slice none 0 0,.string (ofL []),
  .int .i64 0,.bool false,.slice none 0 0,.int .i64 0,.int .i64 0,.bool false,
  .int .i64 0,.slice none 0 0,.int .i64 0,.int .u8 0,.int .u8 0,.int .i64 0,.int .i32 0,.int .i32 0]
theorem wrong_one (came n:Int):(wrongCells came n).all (·.oneCell')=true:=by simp[wrongCells,Value.oneCell']
theorem Tryz.info75R:(Tryz.prog.info? 113).map (·.size)=some 22:=by kernel_rfl
theorem assert105 (w:World) (v:Value):(Instr.typeAssert (.iface 153 v) 20 153 true).run Tryz.prog w=.ok (.tuple #[v,.bool true]) w:=by kernel_rfl
def Gave (B came n:Nat) (S:Nat→Prop) (w w':World):Prop:=w'.heap[B]? =some (.cells (wrongCells came n) 113 (0,0))∧Fr S w w'
theorem Fr.setRow {S:Nat→Prop} {a w:World} (h:Fr S a w) {g:Nat} (hp:S g∨a.heap.size≤g) (cs:Array Value):Fr S a (w.setRow g cs):=
 ⟨h.os,h.tape,h.output,by rw[setRow_size];exact h.size,fun k hk hs=>(setRow_other w g k cs (by rintro rfl;rcases hp with h1|h1;exact hs h1;omega)).trans (h.block k hk hs)⟩
theorem giveUp_any (B came n:Nat) (S:Nat→Prop) (w0 w:World) (h:PErr B came S w0 w) (hS:S B∨w0.heap.size≤B):
 Calls Tryz.prog 49 #[.pointer (some ⟨B,0,none⟩),.iface 153 (.agg #[.int .i64 (n:Int)])] w fun e w'=>e=.returned (.int .i64 (n:Int))∧Gave B came n S w0 w':=by
 obtain⟨cs,hh,hsz,hc1,hF⟩:=h;have hBl:=lt_of_block hh;have hta:=fun w v=>assert105 w v
 have k1:=blk_cell hh hc1;have q1:∀ob,(w.alloc ob).cell? ⟨B,1,none⟩=some (.int .i64 (came:Int)):=fun ob=>(World.cell?_of_block (w:=w) (Below.heap_alloc _ _ _ hBl)).trans k1
 have HB:=hid (show((w.alloc (.cells #[.int .i64 (n:Int)] 153)).drew).heap[B]? =some (.cells cs 113 (0,0))from(Below.heap_alloc _ _ _ hBl).trans hh)
 have gX:(((w.alloc (.cells #[.int .i64 (n:Int)] 153)).drew).setRow B (wrongCells came n)).cell? ⟨w.heap.size,0,none⟩=some (.int .i64 (n:Int)):=by
  rw[cell_setRow_other _ _ _ _ (by show w.heap.size≠B;omega)]
  go_simp
 have HR:=hid (show Gave B came n S w0 (((w.alloc (.cells #[.int .i64 (n:Int)] 153)).drew).setRow B (wrongCells came n))from
  ⟨setRow_heap _ _ _ _ _ _ HB.out,((hF.alloc _).drew).setRow hS _⟩)
 have HZ:=hid (show cs.size=(wrongCells came n).size from hsz);clear hh hF hS hsz hc1;go_enter Tryz.func49,Tryz.ntmps49;go_wp2;refine wp_region_any (by kernel_rfl) ?_
 change wpAny _ _ _ _ _ _ _ (World.drew _)
 refine wpAny_take (i:=0) (v:=?_) rfl (by kernel_rfl) (by kernel_rfl) (by kernel_rfl) (fun _ _ _ h=>h) (Or.inl ⟨by rfl,?_⟩) ?_
 rotate_left
 ·(intro w;go_simp;try with_reducible rfl)
 refine wpAny_take (i:=1) (v:=?_) rfl (by kernel_rfl) (by kernel_rfl) (by kernel_rfl) (fun _ _ _ h=>h) (Or.inl ⟨by rfl,?_⟩) ?_
 rotate_left
 ·(intro w;go_simp;try with_reducible rfl)
 refine wpAny_take (i:=2) (v:=?_) rfl (by kernel_rfl) (by kernel_rfl) (by kernel_rfl) (fun _ _ _ h=>h) (Or.inl ⟨by rfl,?_⟩) ?_
 rotate_left
 ·(intro w;go_simp;try with_reducible rfl)
 refine wpAny_take (i:=3) (v:=?_) rfl (by kernel_rfl) (by kernel_rfl) (by kernel_rfl) (fun _ _ _ h=>h) (Or.inl ⟨by rfl,?_⟩) ?_
 rotate_left
 ·(intro w;go_simp;try with_reducible rfl)
 refine wpAny_take (i:=5) (v:=?_) rfl (by kernel_rfl) (by kernel_rfl) (by kernel_rfl) (fun _ _ _ h=>h) (Or.inl ⟨by rfl,?_⟩) ?_
 rotate_left
 ·(intro w;go_simp;try with_reducible rfl)
 refine wpAny_ready (rs:=[4,6]) (by kernel_rfl) (by simp) ?_;refine AllReady.cons rfl (fun K hK=>?_) ?_
 ·go_simp
  refine hK _ _ ?_;clear hK K;refine wpAny_ready (rs:=[6]) (by kernel_rfl) (by simp) ?_;refine AllReady.cons rfl (fun K hK=>?_) AllReady.nil
  go_simp
  refine hK _ _ ?_;clear hK K;refine wpAny_take (i:=7) (v:=?_) rfl (by kernel_rfl) (by kernel_rfl) (by kernel_rfl) (fun _ _ _ h=>h) (Or.inl ⟨by rfl,?_⟩) ?_
  rotate_left
  ·(intro w;go_simp;try with_reducible rfl)
  refine wpAny_take (i:=8) (v:=?_) rfl (by kernel_rfl) (by kernel_rfl) (by kernel_rfl) (fun _ _ _ h=>h) (Or.inl ⟨by rfl,?_⟩) ?_
  rotate_left
  ·(intro w;go_simp;try with_reducible rfl)
  refine wpAny_ready (rs:=[9]) (by kernel_rfl) (by simp) ?_;refine AllReady.cons rfl (fun K hK=>?_) AllReady.nil;refine step_store_row rfl 113 _ _ rfl B (wrongCells came n) rfl rfl 113 cs HB.out Tryz.info75R HZ.out (wrong_one _ _) ?_;refine hK _ _ ?_;clear hK K;refine wpAny_done (by kernel_rfl) ?_ _;go_wp2;go_ret;exact⟨rfl,HR.out⟩
 refine AllReady.cons rfl (fun K hK=>?_) ?_
 ·go_simp
  refine hK _ _ ?_;clear hK K;refine wpAny_ready (rs:=[4]) (by kernel_rfl) (by simp) ?_;refine AllReady.cons rfl (fun K hK=>?_) AllReady.nil
  go_simp
  refine hK _ _ ?_;clear hK K;refine wpAny_take (i:=7) (v:=?_) rfl (by kernel_rfl) (by kernel_rfl) (by kernel_rfl) (fun _ _ _ h=>h) (Or.inl ⟨by rfl,?_⟩) ?_
  rotate_left
  ·(intro w;go_simp;try with_reducible rfl)
  refine wpAny_take (i:=8) (v:=?_) rfl (by kernel_rfl) (by kernel_rfl) (by kernel_rfl) (fun _ _ _ h=>h) (Or.inl ⟨by rfl,?_⟩) ?_
  rotate_left
  ·(intro w;go_simp;try with_reducible rfl)
  refine wpAny_ready (rs:=[9]) (by kernel_rfl) (by simp) ?_;refine AllReady.cons rfl (fun K hK=>?_) AllReady.nil;refine step_store_row rfl 113 _ _ rfl B (wrongCells came n) rfl rfl 113 cs HB.out Tryz.info75R HZ.out (wrong_one _ _) ?_;refine hK _ _ ?_;clear hK K;refine wpAny_done (by kernel_rfl) ?_ _;go_wp2;go_ret;exact⟨rfl,HR.out⟩
 exact AllReady.nil
def nilS:Value:=.slice none 0 0
theorem newParser_any (d:Nat) (h1:1≤d) (h2:d≤1000) (w:World):
 Calls Tryz.prog 30 #[.int .i64 (d:Int)] w fun e w'=>e=.returned (.tuple #[.pointer (some ⟨w.heap.size,0,none⟩),.int .i64 0])∧w'=w.alloc (.cells (psCells (ps0 d) nilS nilS nilS nilS) 113):=by
 go_enter Tryz.func30,Tryz.ntmps30;go_wp2;go_ret2;exact⟨rfl,rfl⟩
theorem newParser_pr (d:Nat) (w:World):PR w.heap.size (w.alloc (.cells (psCells (ps0 d) nilS nilS nilS nilS) 113)) nilS nilS nilS nilS (ps0 d):=
 ⟨heap_alloc_new _ _,row_nil _ 29 4,row_nil _ 3 1,row_nil _ 5 1,row_nil _ 5 1,.inl rfl⟩
def EndPost (B came:Nat) (S:Nat→Prop) (w:World) (r:List It×Nat) (e:Ending) (w':World):Prop:=
 ∃V,e=.returned (.tuple #[V,.int .i64 (r.2:Int)])∧w'.ownsRow 0 29 4 V r.1.length (itsV r.1)∧(∀i,V.ownBlock=some i→S i∨w.heap.size≤i)∧PErr B came S w w'
theorem EndPost.nil {B came:Nat} {S:Nat→Prop} {w w':World} {n:Nat} {v:Int} (hv:v=(n:Int)) (h:PErr B came S w w'):EndPost B came S w ([],n) (.returned (.tuple #[.slice none 0 0,.int .i64 v])) w':=by
 subst hv;exact⟨_,rfl,row_nil _ 29 4,(fun i h=>by cases h),h⟩
theorem end_any (B:Nat) (vi vo vt vm:Value) (s:Ps) (m k:Nat) (w:World) (h:PR B w vi vo vt vm s) (hq:Qv s vt vm) (hok:PsOk s m k) (hm:m≤5000000) (hk:k≤10000000):
 Calls Tryz.prog 51 #[.pointer (some ⟨B,0,none⟩)] w (EndPost B s.came (own B vi vo vt vm) w (psEnd s)):=by
 have hoo:=h.oo;obtain⟨ao,no,co,rfl⟩:=row_shape3 hoo;have hno:=slice_len hoo;subst hno;have k2:=blk_cell h.blk (show(psCells s vi (.slice ao s.opn.length co) vt vm)[2]? =some (.int .i64 0)from rfl);have k4:=blk_cell h.blk (show(psCells s vi (.slice ao s.opn.length co) vt vm)[4]? =some (.int .i64 (s.st:Int))from rfl);have k5:=blk_cell h.blk (show(psCells s vi (.slice ao s.opn.length co) vt vm)[5]? =some vi from rfl);have k6:=blk_cell h.blk (show(psCells s vi (.slice ao s.opn.length co) vt vm)[6]? =some (.slice ao s.opn.length co)from rfl);have hol:=hok.c.oln;have hst:=hok.st;unfold psEnd;by_cases h7:s.st=7
 ·by_cases ho:s.opn=[]
  ·rw[if_pos ⟨h7,ho⟩]
   have HE:=hid (endToken_any B vi (.slice ao s.opn.length co) vt vm s m k w h (hq.2 (by omega) (by omega)) hok hm hk);have hl0:s.opn.length=0:=by rw[ho];rfl
   rw[h7]at k4;cases hx:psEndTok s with
   |error n=>
    rw[hx]at HE
    show Calls _ _ _ _ (EndPost _ _ _ _ (if n=6 then([],6)else([],7)))
    by_cases h6:n=6
    ·rw[if_pos h6]
     subst h6;have HP:=hid h;rw[hl0]at k6 HE HP ⊢;clear h hoo hol hok hst ho hx;go_enter Tryz.func51,Tryz.ntmps51
     go_wp2_with fail
     refine Calls.mono HE.out ?_;rintro e w2 ⟨rfl,hF⟩;have HF:=hid hF;clear hF;go_wp2;go_ret2;exact EndPost.nil rfl (PErr.same HP.out HF.out)
    ·rw[if_neg h6]
     have hn6:((n:Int)==6)=false:=beq_eq_false_iff_ne.2 (by omega);have HP:=hid h;rw[hl0]at k6 HE HP ⊢;clear h hoo hol hok hst ho hx;go_enter Tryz.func51,Tryz.ntmps51
     go_wp2_with fail
     refine Calls.mono HE.out ?_;rintro e w2 ⟨rfl,hF⟩;have j4:=(hF.cell (p:=⟨B,4,none⟩) (lt_of_block HP.out.blk) id).trans k4;have HF:=hid hF;clear hF;go_wp2;go_ret2;exact EndPost.nil rfl (PErr.same HP.out HF.out)
   |ok s'=>
    rw[hx]at HE;simp only;obtain⟨q1,q2,q3⟩:=psEndTok_cameN hx;rw[ho]at q2;have HQ1:=hid q1;rw[hl0]at k6 HE ⊢;clear h hoo hol hok hst ho hx hq q1;go_enter Tryz.func51,Tryz.ntmps51
    go_wp2_with fail
    refine Calls.mono HE.out ?_;rintro e w2 ⟨rfl,hP⟩;obtain⟨ui,uo,ut,um,hC,hQ⟩:=hP;have hoo:=hC.pr.oo;obtain⟨bo,no,do',rfl⟩:=row_shape3 hoo;have hno:=slice_len hoo;rw[q2]at hno;obtain rfl:no=0:=hno;have j4:=blk_cell hC.pr.blk (show(psCells s' ui (.slice bo 0 do') ut um)[4]? =some (.int .i64 (s'.st:Int))from rfl);have j5:=blk_cell hC.pr.blk (show(psCells s' ui (.slice bo 0 do') ut um)[5]? =some ui from rfl);have j6:=blk_cell hC.pr.blk (show(psCells s' ui (.slice bo 0 do') ut um)[6]? =some (.slice bo 0 do')from rfl);rw[q3]at j4;have HC:=hid hC;clear hC hQ hoo q2 q3 k2 k4 k5 k6 HE h7 hl0 hm hk;go_wp2;go_ret2;exact⟨ui,rfl,HC.out.pr.oi,fun i hi=>HC.out.ow i (.inr (.inl hi)),HQ1.out▸HC.out.err⟩
  ·rw[if_neg (fun hh=>ho hh.2),if_neg (fun hh=>ho hh.2)]
   have hl0:0<s.opn.length:=List.length_pos_iff.2 ho;rw[h7]at k4;have HP:=hid h;clear h hoo hok hst ho hq;go_enter Tryz.func51,Tryz.ntmps51;go_wp2;go_ret2;exact EndPost.nil rfl (PErr.same HP.out (Fr.refl _ _))
 ·have hs7:((s.st:Int)==7)=false:=beq_eq_false_iff_ne.2 (by omega)
  rw[if_neg (fun hh=>h7 hh.1)];by_cases h5:s.st=5
  ·by_cases ho:s.opn=[]
   ·rw[if_pos ⟨h5,ho⟩]
    have hl0:s.opn.length=0:=by rw[ho];rfl
    have HP:=hid h;rw[h5]at k4 hs7;rw[hl0]at k6 HP ⊢;clear h hoo hol hok hst ho hq;go_enter Tryz.func51,Tryz.ntmps51;go_wp2;go_ret2;exact⟨vi,rfl,HP.out.oi,fun i hi=>.inl (.inr (.inl hi)),PErr.same HP.out (Fr.refl _ _)⟩
   ·rw[if_neg (fun hh=>ho hh.2)]
    have hl0:0<s.opn.length:=List.length_pos_iff.2 ho;have HP:=hid h;rw[h5]at k4 hs7;clear h hoo hok hst ho hq;go_enter Tryz.func51,Tryz.ntmps51;go_wp2;go_ret2;exact EndPost.nil rfl (PErr.same HP.out (Fr.refl _ _))
  ·rw[if_neg (fun hh=>h5 hh.1)]
   have hs5:((s.st:Int)!=5)=true:=bne_iff_ne.2 (by omega);have HP:=hid h;clear h hoo hok hst hq;go_enter Tryz.func51,Tryz.ntmps51;go_wp2;go_ret2;exact EndPost.nil rfl (PErr.same HP.out (Fr.refl _ _))
def Rd (B:Nat) (S:Nat→Prop) (w0 w:World) (R:Except (Nat×Nat) Ps):Prop:=
 match R with
 |.ok s=>PSt B S w0 w s
 |.error (n,c)=>Gave B c n S w0 w
def closedCells:Array Value:=
 #[.int .i64 0,.int .i64 0,.int .i64 0,.bool true,.int .i64 0,.slice none 0 0,.slice none 0 0,.string (ofL []),
  .int .i64 0,.bool false,.slice none 0 0,.int .i64 0,.int .i64 0,.bool false,
  .int .i64 0,.slice none 0 0,.int .i64 0,.int .u8 0,.int .u8 0,.int .i64 0,.int .i32 0,.int .i32 0]
def ClosePost (S:Nat→Prop) (w0:World) (r:List It×Nat×Nat) (e:Ending) (w':World):Prop:=
 ∃V,e=.returned (.tuple #[V,.int .i64 (r.2.1:Int),.int .i64 (r.2.2:Int)])∧w'.ownsRow 0 29 4 V r.1.length (itsV r.1)∧(∀i,V.ownBlock=some i→S i∨w0.heap.size≤i)∧Fr S w0 w'
theorem ClosePost.base {S T:Nat→Prop} {w0 w w':World} {r:List It×Nat×Nat} {e:Ending} (hF:Fr S w0 w) (hT:∀i,T i→S i∨w0.heap.size≤i) (h:ClosePost T w r e w'):ClosePost S w0 r e w':=by
 obtain⟨V,a,b,c,d⟩:=h;refine⟨V,a,b,?_,hF.trans' d hT⟩;intro i hi;rcases c i hi with h1|h1
 ·exact hT i h1
 ·have:=hF.size
  exact .inr (by omega)
theorem closed_one:closedCells.all (·.oneCell')=true:=by simp[closedCells,Value.oneCell']
theorem rowRow {w:World} {B e size n:Nat} {v:Value} {xs:List Value} (h:w.ownsRow 0 e size v n xs) (hb:v.ownBlock≠some B) (cs:Array Value):(w.setRow B cs).ownsRow 0 e size v n xs:=by
 refine⟨h.1,?_⟩;rcases h.2 with h2|⟨g,cap,cur,hv,h3,hg,h4⟩
 ·exact .inl h2
 ·refine .inr ⟨g,cap,cur,hv,h3,?_,h4⟩
  rw[setRow_other w B g cs (by intro e;apply hb;rw[hv,←e];rfl)];exact hg
theorem close_end (B came:Nat) (S:Nat→Prop) (w:World) (r:List It×Nat) (k3:w.cell? ⟨B,3,none⟩=some (.bool false)) (hS:S B∨w.heap.size≤B) (he:Calls Tryz.prog 51 #[.pointer (some ⟨B,0,none⟩)] w (EndPost B came S w r)):
 Calls Tryz.prog 32 #[.pointer (some ⟨B,0,none⟩)] w (ClosePost S w (r.1,r.2,came)):=by
 have HE:=hid he;have HS:=hid hS;clear he hS;go_enter Tryz.func32,Tryz.ntmps32
 go_wp2_with fail
 refine Calls.mono HE.out ?_;rintro e w2 ⟨V,rfl,hrow,hnew,cs,hblk,hsz,hc1,hF⟩;have j1:=blk_cell hblk hc1;have HR:=hid (rowRow hrow (rowT hrow hblk (by decide)) closedCells);have HN:=hid hnew;have HF:=hid (hF.setRow HS.out closedCells);have HB:=hid hblk;have HZ:=hid hsz;clear hrow hnew hF hblk hsz hc1
 go_wp2_with (refine wpList_store_row rfl 113 _ _ rfl B closedCells rfl rfl 113 cs HB.out Tryz.info75R HZ.out closed_one ?_)
 go_ret3
 exact⟨V,rfl,HR.out,HN.out,HF.out⟩
theorem end_wrong (B c n:Nat) (S:Nat→Prop) (w:World) (h:w.heap[B]? =some (.cells (wrongCells c n) 113 (0,0))) (hn:n≠0):
 Calls Tryz.prog 51 #[.pointer (some ⟨B,0,none⟩)] w (EndPost B c S w ([],n)):=by
 have k2:=blk_cell h (show(wrongCells c n)[2]? =some (.int .i64 (n:Int))from rfl);have hs:((n:Int)!=0)=true:=bne_iff_ne.2 (by omega);have HE:=hid (show PErr B c S w w.drew from⟨_,h,rfl,rfl,(Fr.refl _ _).drew⟩);clear h hn;go_enter Tryz.func51,Tryz.ntmps51;go_wp2;go_region
 all_goals
  go_wp2;go_ret2;exact EndPost.nil rfl HE.out
theorem close_any (B d:Nat) (S:Nat→Prop) (w0 w:World) (l:List UInt8) (h1:1≤d) (h2:d≤1000) (hl:l.length≤1500000) (hS:S B∨w0.heap.size≤B) (h:Rd B S w0 w (psRun (ps0 d) l)):
 Calls Tryz.prog 32 #[.pointer (some ⟨B,0,none⟩)] w (ClosePost S w0 (psFin (psRun (ps0 d) l))):=by
 cases hx:psRun (ps0 d) l with
 |error x=>
  obtain⟨n,c⟩:=x;rw[hx]at h;obtain⟨hb,hF⟩:=h;refine(close_end B c (fun i=>i=B) w ([],n) (blk_cell hb rfl) (.inl rfl) (end_wrong B c n _ w hb (psRun_err hx).1)).mono ?_;intro e w' hp;exact ClosePost.base hF (fun i h=>by subst h;exact hS) hp
 |ok s=>
  rw[hx]at h;obtain⟨vi,vo,vt,vm,hC,hQ⟩:=h;have hok:=psRun_ok (ps0_ok d h1 h2) hx;refine(close_end B s.came _ w (psEnd s) (blk_cell hC.pr.blk rfl) (.inl (.inl rfl)) (end_any B vi vo vt vm s _ _ w hC.pr hQ hok (by omega) (by omega))).mono ?_;intro e w' hp;exact ClosePost.base hC.fr hC.ow hp
end Go.Proofs.YtmkkibaacclhnaaGreatDoor
