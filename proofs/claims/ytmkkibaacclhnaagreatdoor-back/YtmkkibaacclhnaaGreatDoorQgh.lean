/-
  A step of the walk, the part named Qgh. No theorem of the row.
-/
import Derived.Test.YtmkkibaacclhnaaGreatDoorVs
import Derived.Lib.UnsafeStr
import Derived.Test.YtmkkibaacclhnaaGreatDoorWy
import Derived.Test.YtmkkibaacclhnaaGreatDoorWd
namespace Go.Proofs.YtmkkibaacclhnaaGreatDoor
open Go.RowKit
set_option maxRecDepth 100000
set_option maxHeartbeats 16000000
theorem Fr.freeze {S:Nat→Prop} {a w:World} (h:Fr S a w) {p:Addr} (hp:S p.block∨a.heap.size≤p.block) (n:Nat):Fr S a (w.freeze p n):=by
 unfold World.freeze;split
 ·exact h
 ·refine⟨h.os,h.tape,h.output,by simpa using h.size,fun k hk hs=>?_⟩
  simp only[Array.getElem?_modify]
  rw[if_neg (by rintro rfl;rcases hp with hp|hp
                ·exact hs hp
                ·omega)]
  exact h.block k hk hs
theorem us_byteCells (l:List UInt8) (j:Nat) (x:UInt8) (h:l[j]? =some x):(us l)[j]? =some (.int .u8 (x.toNat:Int)):=by
 unfold us;rw[List.getElem?_map,h];rfl
theorem Tryz.cells5B:Tryz.prog.cellsOf 5=1:=by kernel_rfl
theorem string_any (B:Nat) (w:World) (vi vb:Value) (nx ind:Int) (so:Bool) (op:Nat) (ad vo:Value) (bs:List UInt8) (h:WAt B w vi vb nx ind so op ad vo bs) (h0:bs≠[]) (hl:bs.length≤100000000000):
 Calls Tryz.prog 27 #[.pointer (some ⟨B,6,none⟩)] w fun e w'=>e=.returned (.string (ofL bs))∧Fr (fun i=>vo.ownBlock=some i) w w':=by
 have hl0:bs.length≠0:=by simpa using h0
 obtain⟨g,cap,cur,rfl,hbg,hg,hnc,hcm,hcs,htake⟩:∃g cap cur,vo=.slice (some ⟨g,0,none⟩) bs.length cap∧0≤g∧w.heap[g]? =some (.cells cur 5 (0,0))∧bs.length≤cap∧cap≤maxLen∧cur.size=cap*1∧cur.toList.take (bs.length*1)=us bs:=by
  rcases h.row.2 with⟨_,hz⟩|⟨g,cap,cur,hv,r⟩
  ·exact absurd hz hl0
  ·exact⟨g,cap,cur,hv,r⟩
 have c7:=blk_cell h.blk (show(wCells vi vb nx ind so op ad (.slice (some ⟨g,0,none⟩) bs.length cap))[7]? =some (.slice (some ⟨g,0,none⟩) bs.length cap)from rfl)
 have hSD:(Builtin.unsafeSliceData_ #[65] 105 #[.slice (some ⟨g,0,none⟩) bs.length cap]).run Tryz.prog w.drew=.ok (.pointer (some ⟨g,0,none⟩)) w.drew:=
  Lib.run_unsafeSliceData_row _ _ _ _ _ _ (by omega)
 have hUS:(Builtin.unsafeString_ #[105,3] 9 #[.pointer (some ⟨g,0,none⟩),.int .i64 bs.length]).run Tryz.prog w.drew=.ok (.string ⟨bs.toArray⟩) (w.drew.freeze ⟨g,0,none⟩ bs.length):=by
  refine Lib.run_unsafeString_row w.drew 105 3 9 5 Tryz.underlying105 Tryz.cells5B g cur.size (by have hg':w.drew.heap[g]? =some (.cells cur 5 (0,0)):=hg;simp[World.shape?,hg']) bs h0 (by omega) (by unfold maxLen at hcm;omega) ?_;intro j x hx;have:=h.row.cells (g:=g) rfl j (.int .u8 x.toNat) (us_byteCells bs j x hx);exact this
 have HF:=hid (((Fr.refl (fun i=>(Value.slice (some ⟨g,0,none⟩) bs.length cap).ownBlock=some i) w).drew).freeze (p:=⟨g,0,none⟩) (.inl rfl) bs.length);have mixed:=Tryz.mixedR;clear h hg hcs htake;go_enter Tryz.func27,Tryz.ntmps27;go_wp2;go_region
 all_goals (go_wp2;go_ret;exact⟨rfl,HF.out⟩)
noncomputable def wAns (l:List Im) (indent:Int) (so:Bool):List UInt8×Int:=
 if indent< -1∨16<indent then([],1)else if sizeD 1000 l=0∨sizeD 1000 l≠l.length then([],8)else(wrD indent so 1000 l,0)
theorem may_yes (indent:Int) (w:World) (h1: -1≤indent) (h2:indent≤16):Calls Tryz.prog 24 #[.int .i64 indent] w fun e w'=>e=.returned (.bool true)∧w'=w:=by
 have a1:decide (-1≤indent)=true:=decide_eq_true h1;have a2:decide (indent≤16)=true:=decide_eq_true h2;go_enter Tryz.func24,Tryz.ntmps24;go_wp2;go_ret;exact⟨rfl,rfl⟩
theorem may_no (indent:Int) (w:World) (h:indent< -1∨16<indent):Calls Tryz.prog 24 #[.int .i64 indent] w fun e w'=>e=.returned (.bool false)∧w'=w:=by
 rcases h with h|h
 ·have a1:decide (-1≤indent)=false:=decide_eq_false (by omega)
  go_enter Tryz.func24,Tryz.ntmps24;go_wp2;go_ret;exact⟨rfl,rfl⟩
 ·have a1:decide (-1≤indent)=true:=decide_eq_true (by omega)
  have a2:decide (indent≤16)=false:=decide_eq_false (by omega);go_enter Tryz.func24,Tryz.ntmps24;go_wp2;go_ret;exact⟨rfl,rfl⟩
theorem pwrite_arg (w:World) (v:Value) (indent:Int) (so:Bool) (h:indent< -1∨16<indent):
 Calls Tryz.prog 8 #[v,.int .i64 indent,.bool so] w fun e w'=>e=.returned (.tuple #[.string (ofL []),.int .i64 1])∧Fr (fun _=>False) w w':=by
 have HM:=hid (fun w=>may_no indent w h);have HF:=hid (Fr.refl (fun _=>False) w);clear h;go_enter Tryz.func8,Tryz.ntmps8
 go_wp2_with (first|(go_at_call 24;refine Calls.mono (HM.out _) ?_;rintro e w2 ⟨rfl,rfl⟩)|fail)
 go_ret2;exact⟨rfl,HF.out⟩
theorem pwrite_val (w:World) (ig cap n:Nat) (indent:Int) (so:Bool) (h1: -1≤indent) (h2:indent≤16)
 (HO:Calls Tryz.prog 25 #[.slice (some ⟨ig,0,none⟩) n cap] w fun e w'=>Fr (fun _=>False) w w'∧∃(k m:Nat),e=.returned (.tuple #[.agg #[.slice (some ⟨ig,0,none⟩) n cap,.slice (some ⟨k,0,none⟩) n n,.int .i64 (m:Int)],.bool false])):
 Calls Tryz.prog 8 #[.slice (some ⟨ig,0,none⟩) n cap,.int .i64 indent,.bool so] w fun e w'=>e=.returned (.tuple #[.string (ofL []),.int .i64 8])∧Fr (fun _=>False) w w':=by
 have HM:=hid (fun w=>may_yes indent w h1 h2);have H:=hid HO;clear HO;go_enter Tryz.func8,Tryz.ntmps8
 go_wp2_with (first|(go_at_call 24;refine Calls.mono (HM.out _) ?_;rintro e w2 ⟨rfl,rfl⟩)|fail)
 refine Calls.mono H.out ?_;rintro e w1 ⟨hF,k,m,rfl⟩;have HF:=hid (fun o=>hF.alloc o);clear hF;go_wp2;go_ret2;exact⟨rfl,HF.out _⟩
theorem PIn.first {w w1:World} {ig cap:Nat} {its:List Im} {g:Nat} {beh:List Nat} {v:Value} (hI:ItAt w (.slice (some ⟨ig,0,none⟩) its.length cap) its) (hF:Fr (fun _=>False) w w1) (h:OutOk w w1 ig cap its v g beh) (o:Obj) (ind:Int) (so:Bool):
 PIn ((w1.alloc o).alloc (.cells #[.slice (some ⟨ig,0,none⟩) its.length cap,.slice (some ⟨g,0,none⟩) its.length its.length,.int .i64 (its.length:Int),.int .i64 ind,.bool so,.int .i64 0,.pointer none,.slice none 0 0] 69)) (w1.heap.size+1) g ig cap its beh its.length ind so 0 (.pointer none) (.slice none 0 0) []:=by
 have hF2:=((Fr.refl (fun _=>False) w1).alloc o).alloc (.cells #[.slice (some ⟨ig,0,none⟩) its.length cap,.slice (some ⟨g,0,none⟩) its.length its.length,.int .i64 (its.length:Int),.int .i64 ind,.bool so,.int .i64 0,.pointer none,.slice none 0 0] 69);have hb:=heap_alloc_new (w1.alloc o) (.cells #[.slice (some ⟨ig,0,none⟩) its.length cap,.slice (some ⟨g,0,none⟩) its.length its.length,.int .i64 (its.length:Int),.int .i64 ind,.bool so,.int .i64 0,.pointer none,.slice none 0 0] 69);rw[show(w1.alloc o).heap.size=w1.heap.size+1 by simp]at hb;exact⟨⟨hb,.inl rfl,⟨rfl,.inl ⟨rfl,rfl⟩⟩⟩,hI.fr (hF.trans hF2) (fun _ _=>id),rowFr h.row hF2 (fun _ _=>id),h.beh⟩
theorem pwrite_ok (w:World) (ig cap:Nat) (its:List Im) (indent:Int) (so:Bool) (hI:ItAt w (.slice (some ⟨ig,0,none⟩) its.length cap) its) (h1: -1≤indent) (h2:indent≤16) (hl:its.length≤10000000) (hs:∀x,x∈its→x.s.length≤100000000) (hb:Bok its) (hw:(wrD indent so 1000 its).length≤90000000000) (hne:wrD indent so 1000 its≠[]) (hz:sizeD 1000 its=its.length) (hn0:its.length≠0)
 (HO:Calls Tryz.prog 25 #[.slice (some ⟨ig,0,none⟩) its.length cap] w fun e w'=>Fr (fun _=>False) w w'∧∃v,e=.returned (.tuple #[v,.bool true])∧∃g beh,OutOk w w' ig cap its v g beh):
 Calls Tryz.prog 8 #[.slice (some ⟨ig,0,none⟩) its.length cap,.int .i64 indent,.bool so] w fun e w'=>e=.returned (.tuple #[.string (ofL (wrD indent so 1000 its)),.int .i64 0])∧Fr (fun _=>False) w w':=by
 have HM:=hid (fun w=>may_yes indent w h1 h2);have H:=hid HO;have HI:=hid hI;have HWR:=hid (fun wx B g beh nx ad vo (hx:PIn wx B g ig cap its beh nx indent so 0 ad vo [])=>write_all 1000 wx B g ig cap its beh nx indent so 0 ad vo [] 0 hx rfl h1 h2 hl hs hb (by rw[List.drop_zero,hz];exact hn0) (by rw[List.drop_zero];simpa using hw));simp only[List.drop_zero,List.nil_append]at HWR;have HST:=hid (fun B wx vi vb nx op ad vo (hx:WAt B wx vi vb nx indent so op ad vo (wrD indent so 1000 its))=>string_any B wx vi vb nx indent so op ad vo _ hx hne (by omega));clear HO hI hs hb hw hne hz;obtain⟨T,hT⟩:∃T,wrD indent so 1000 its=T:=⟨_,rfl⟩;rw[hT]at HWR HST ⊢;clear hT;go_enter Tryz.func8,Tryz.ntmps8
 go_wp2_with (first|(go_at_call 24;refine Calls.mono (HM.out _) ?_;rintro e w2 ⟨rfl,hw2⟩;have hw3:=hw2.symm;subst hw3)|fail)
 refine Calls.mono H.out ?_;rintro e w1 ⟨hF,v,rfl,g,beh,hO⟩;have hv:=hO.val;subst hv;have HP:=hid (fun o=>PIn.first HI.out hF hO o indent so);have HF:=hid hF;have hB:w.heap.size≤w1.heap.size:=hF.size;clear hF hO;generalize its.length=n at*
 go_wp2_with fail
 refine Calls.mono (HWR.out _ _ _ _ _ _ _ (HP.out _)) ?_;rintro e w2 ⟨rfl,vo2,hW2,hF2,hN2⟩
 have HF2:=hid (((HF.out.alloc _).alloc _).trans' hF2 (by
  rintro i (rfl|h)
  ·exact .inr (by omega)
  ·simp[Value.ownBlock]at h))
 have HN2:=hid (show∀i,vo2.ownBlock=some i→w.heap.size≤i from fun i hi=>by
  rcases hN2 i hi with h|h
  ·simp[Value.ownBlock]at h
  ·simp at h;omega)
 have HS:=hid (HST.out _ _ _ _ _ _ _ _ hW2);clear hW2 hF2 hN2
 go_wp2_with fail
 refine Calls.mono HS.out ?_;rintro e w3 ⟨rfl,hF3⟩;have HF3:=hid (HF2.out.trans' hF3 (fun i hi=>.inr (HN2.out i hi)));clear hF3;go_wp2;go_ret2;exact⟨rfl,HF3.out⟩
theorem calls_two {P:Program} {f:FuncId} {args:Array Value} {w:World} {b:Value} {R:Value→World→Prop} {S:World→Prop} (hi:P.inits.idxOf? f=none) (h1:Calls P f args w fun e w'=>∃a,e=.returned a∧R a w') (h2:Calls P f args w fun e w'=>e=.returned b∧S w'):∃w',R b w':=by
 obtain⟨e1,w1,f1,⟨a,rfl,hR⟩,⟨j1,c1⟩,n1,l1⟩:=h1 [];obtain⟨e2,w2,f2,⟨rfl,_⟩,⟨j2,c2⟩,n2,l2⟩:=h2 [];have s1:=step_leave_done l1 (by rw[n1];exact hi);have s2:=step_leave_done l2 (by rw[n2];exact hi);have:=run_ended_one c1 s1 c2 s2;injection this with this
 subst this;exact⟨_,hR⟩
theorem layL_ne (l:List UInt8) (pw:Int) (h:0<l.length):layL l pw≠[]:=by
 have hl:l≠[]:=by rintro rfl;simp at h
 unfold layL;split
 ·unfold expL
  simp[hl]
 ·split
  ·simp
  ·split
   ·simp[hl]
   ·simp
theorem printT_ne (w:World) (bits:Nat) (hb:bits<18446744073709551616) (hfin:bits % 9223372036854775808<9218868437227405312):printT bits≠[]:=by
 have h1:Calls Tryz.prog 23 #[.int .u64 (bits:Int)] w fun e w'=>∃a,e=.returned a∧∃t,a=.tuple #[.string (ofL t),.int .i64 0]∧t≠[]:=by
  by_cases h0:bits % 9223372036854775808=0
  ·refine(print_zero bits _ w (u64_andNot_sign bits hb) h0).mono ?_
   rintro e w' ⟨rfl,hF⟩;refine⟨_,rfl,_,rfl,?_⟩;intro h;unfold printL at h;split at h<;>cases h
  ·refine(print_num bits _ w (u64_andNot_sign bits hb) h0 hfin).mono ?_
   rintro e w' ⟨D,pw,hs,_,_,_,rfl,hF⟩;refine⟨_,rfl,_,rfl,?_⟩;unfold printL;split
   ·simp
   ·exact layL_ne _ _ (dgs_pos D)
 obtain⟨_,t,ht,hne⟩:=calls_two (by kernel_rfl) h1 (print_T bits w hb hfin);simp at ht;rw[ofL_inj ht];exact hne
theorem leafT_ne (w:World) (x:Im) (hg:goodI x=true) (hb:x.b<18446744073709551616):leafT x≠[]:=by
 unfold leafT;split
 ·simp
 ·split
  ·simp
  ·split
   ·simp
   ·split
    ·rename_i h;exact printT_ne w x.b hb (goodI_num hg h)
    ·unfold quoteL;simp
theorem wrD_ne (w:World) (indent:Int) (so:Bool) (d:Nat) (l:List Im) (hb:Bok l) (hz:sizeD d l≠0):wrD indent so d l≠[]:=by
 cases l with
 |nil=>exact absurd (by cases d<;>rfl) hz
 |cons x r=>
  have hg:goodI x=true:=by
   by_cases hg:goodI x=true
   ·exact hg
   ·exfalso
    apply hz;cases d with
    |zero=>rw[sizeD,if_neg (fun h=>hg h.1)]
    |succ e=>rw[sizeD,if_neg hg]
  have hl:=leafT_ne w x hg (hb x (by simp));cases d with
  |zero=>exact hl
  |succ d=>
   simp only[wrD];split
   ·exact hl
   ·unfold joinL
    split<;>simp
theorem pwrite_any (w:World) (ig cap:Nat) (its:List Im) (indent:Int) (so:Bool) (hI:ItAt w (.slice (some ⟨ig,0,none⟩) its.length cap) its) (hT:Tabs w) (hl:its.length≤10000000) (hs:∀x,x∈its→x.s.length≤100000000) (hb:Bok its) (hwg:wgt its≤90000000000):
 Calls Tryz.prog 8 #[.slice (some ⟨ig,0,none⟩) its.length cap,.int .i64 indent,.bool so] w fun e w'=>e=.returned (.tuple #[.string (ofL (wAns its indent so).1),.int .i64 (wAns its indent so).2])∧Fr (fun _=>False) w w':=by
 unfold wAns;by_cases h1:indent< -1∨16<indent
 ·rw[if_pos h1]
  exact pwrite_arg w _ indent so h1
 ·rw[if_neg h1]
  by_cases h2:sizeD 1000 its=0∨sizeD 1000 its≠its.length
  ·rw[if_pos h2]
   refine pwrite_val w ig cap its.length indent so (by omega) (by omega) ?_;by_cases hz:sizeD 1000 its=0
   ·exact outline_no w ig cap its hI hT hl hs hb hz
   ·refine(outline_some w ig cap its hI hT hl hs hb hz).mono ?_
    rintro e w' ⟨hF,v,rfl,⟨k,m,rfl⟩,_⟩;have:((sizeD 1000 its:Int)==(its.length:Int))=false:=beq_eq_false_iff_ne.2 (by omega);exact⟨hF,k,m,by rw[this]⟩
  ·rw[if_neg h2]
   have hz:sizeD 1000 its≠0:=fun h=>h2 (.inl h)
   have hz2:sizeD 1000 its=its.length:=Classical.byContradiction (fun h=>h2 (.inr h));have hlen:=wrD_len w indent so (by omega) 1000 its hb hz;have hwt:=wgt_take_le its (sizeD 1000 its);refine pwrite_ok w ig cap its indent so hI (by omega) (by omega) hl hs hb (by omega) (wrD_ne w indent so 1000 its hb hz) hz2 (by omega) ?_;refine(outline_some w ig cap its hI hT hl hs hb hz).mono ?_;rintro e w' ⟨hF,v,rfl,_,hO⟩;have:((sizeD 1000 its:Int)==(its.length:Int))=true:=beq_iff_eq.2 (by omega);exact⟨hF,v,by rw[this],hO hz2⟩
theorem feed_wrong (B c n:Nat) (S:Nat→Prop) (l:List UInt8) (w0 w:World) (h:Gave B c n S w0 w) (hn:n≠0):
 Calls Tryz.prog 31 #[.pointer (some ⟨B,0,none⟩),.string (ofL l)] w fun e w'=>e=.returned (.int .i64 (n:Int))∧Gave B c n S w0 w':=by
 have hmf:∀(fn:Fn) (first cap:Array Value) (w:World),(Instr.makeFunc fn first cap).run Tryz.prog w=.ok (.func fn first cap) w:=fun _ _ _ _=>rfl
 obtain⟨hb,hF⟩:=h;have hBl:=lt_of_block hb;have hbb:∀a b,((w.alloc a).alloc b).heap[B]? =some (.cells (wrongCells c n) 113 (0,0)):=fun a b=>((Below.heap_alloc (w.alloc a) b B (by simp;omega)).trans (Below.heap_alloc w a B hBl)).trans hb
 have k3:∀a b,((w.alloc a).alloc b).cell? ⟨B,3,none⟩=some (.bool false):=fun a b=>blk_cell (hbb a b) rfl
 have k2:∀a b,((w.alloc a).alloc b).cell? ⟨B,2,none⟩=some (.int .i64 (n:Int)):=fun a b=>blk_cell (hbb a b) rfl
 have hs:((n:Int)!=0)=true:=bne_iff_ne.2 (by omega);have HG:=hid (show∀a b,Gave B c n S w0 ((w.alloc a).alloc b)from fun a b=>⟨hbb a b,(hF.alloc a).alloc b⟩);clear hb hF hbb hn
 go_enter_defers Tryz.func31,Tryz.ntmps31
 go_wp2;simp[bodyPostD,Leaves,results,Tryz.results31,go_sem];exact HG.out _ _
theorem feed_any (B d:Nat) (S:Nat→Prop) (w0 w:World) (l a:List UInt8) (h1:1≤d) (h2:d≤1000) (hl:l.length+a.length≤1500000) (h:Rd B S w0 w (psRun (ps0 d) l)):
 Calls Tryz.prog 31 #[.pointer (some ⟨B,0,none⟩),.string (ofL a)] w fun e w'=>e=.returned (.int .i64 ((errOf (psRun (ps0 d) (l++a)):Nat):Int))∧Rd B S w0 w' (psRun (ps0 d) (l++a)):=by
 rw[psRun_append];cases hx:psRun (ps0 d) l with
 |error x=>
  obtain⟨n,c⟩:=x;rw[hx]at h;exact feed_wrong B c n S a w0 w h (psRun_err hx).1
 |ok s=>
  rw[hx]at h;obtain⟨vi,vo,vt,vm,hC,hQ⟩:=h;have hok:=psRun_ok (ps0_ok d h1 h2) hx;have hcm:=psRun_came hx;have hc0:(ps0 d).came=0:=rfl;refine(feed_run B vi vo vt vm s _ _ a (psRun s a) w hC.pr hQ hok (by omega) (by omega) (by omega) rfl).mono ?_;rintro e w' ⟨rfl,hR⟩;refine⟨rfl,?_⟩
  show Rd B S w0 w' (psRun s a)
  cases hy:psRun s a with
  |ok s'=>
   rw[hy]at hR;exact hC.trans hR
  |error x=>
   obtain⟨n,c⟩:=x;rw[hy]at hR;exact⟨hR.1,hC.fr.trans' hR.2 hC.ow⟩
def strLen:Value→Nat
 |.string b=>b.size
 |_=>0
theorem rd_new (d:Nat) (w:World):Rd w.heap.size (fun _=>False) w (w.alloc (.cells (psCells (ps0 d) nilS nilS nilS nilS) 113)) (psRun (ps0 d) []):=by
 refine⟨nilS,nilS,nilS,nilS,⟨newParser_pr d w,(Fr.refl _ _).alloc _,?_⟩,fun _=>rfl,fun _ _=>rfl⟩;intro i hi;rcases hi with rfl|hi|hi|hi|hi
 ·exact .inr (Nat.le_refl _)
 all_goals cases hi
theorem read_any (l:List UInt8) (p:Nat) (w:World) (hp:1≤p) (hp2:p≤1000000) (hl:l.length≤1400000):
 Calls Tryz.prog 14 #[.string (ofL l),.int .i64 (p:Int)] w (ClosePost (fun _=>False) w (psFin (psRun (ps0 9) l))):=by
 go_enter Tryz.func14,Tryz.ntmps14
 go_wp2_with fail
 refine Calls.mono (show Calls Tryz.prog 30 #[.int .i64 9] _ _ from newParser_any 9 (by omega) (by omega) _) ?_;rintro e w1 ⟨rfl,hw1⟩;have HR0:=hid (rd_new 9 w);rw[←hw1]at HR0;clear hw1;have HL:=hid hl;go_wp2
 go_loopw [0] (fun s wr=>∃j,j≤l.length∧s=.string (ofL (l.drop j))∧Hid (Rd w.heap.size (fun _=>False) w wr (psRun (ps0 9) (l.take j)))) (fun s _=>strLen s)
 case atStart=>exact⟨0,by omega,rfl,HR0⟩
 case round=>
  obtain⟨j,hj,rfl,hR⟩:=hrel;by_cases hlt:j<l.length
  ·obtain⟨m,hm⟩:∃m,l.drop j=m:=⟨_,rfl⟩
   have hml:m.length=l.length-j:=by rw[←hm,List.length_drop]
   have hsz:=ofL_size m;have hne:(ofL m).toList.isEmpty=false:=by rw[ofL_toList];cases m with|nil=>(simp at hml;omega)|cons _ _=>rfl
   obtain⟨n,hn⟩:∃n,min p m.length=n:=⟨_,rfl⟩;rw[hm];have HM:=hid hm;clear hm
   go_wp2_with fail
   have hx:(ofL m).extract 0 (min (p:Int) ((l.length-j:Nat):Int)).toNat=ofL (m.take n):=by
    rw[ofL_extract,List.drop_zero];congr 2;omega
   rw[hx];refine Calls.mono (feed_any w.heap.size 9 (fun _=>False) w wr (l.take j) (m.take n) (by omega) (by omega) (by rw[List.length_take,List.length_take];omega) hR.out) ?_;rintro e w2 ⟨rfl,hR2⟩;have HR2:=hid hR2;clear hR2 hx;go_wp2
   have hy:(ofL m).extract (min (p:Int) ((l.length-j:Nat):Int)).toNat (l.length-j)=ofL (l.drop (j+n)):=by
    rw[ofL_extract,List.take_of_length_le (by omega),←HM.out,List.drop_drop];congr 2;omega
   rw[hy];have ht:l.take j++m.take n=l.take (j+n):=by rw[List.take_add,HM.out]
   rw[ht]at HR2;refine⟨⟨j+n,by omega,rfl,HR2⟩,?_⟩
   show(ofL (l.drop (j+n))).size<(ofL m).size
   rw[ofL_size,ofL_size,List.length_drop];omega
  ·obtain rfl:j=l.length:=by omega
   rw[List.take_length]at hR;rw[List.drop_length];have hne:(ofL []).toList.isEmpty=true:=by rw[ofL_toList];rfl
   go_wp2_with fail
   refine Calls.mono (close_any w.heap.size 9 (fun _=>False) w wr l (by omega) (by omega) (by omega) (.inr (Nat.le_refl _)) hR.out) ?_;rintro e w2 ⟨V,rfl,q1,q2,q3⟩;have HQ:=hid (And.intro q1 (And.intro q2 q3));clear q1 q2 q3;go_wp2
   go_ret3
   exact⟨V,rfl,HQ.out.1,HQ.out.2.1,HQ.out.2.2⟩
end Go.Proofs.YtmkkibaacclhnaaGreatDoor
