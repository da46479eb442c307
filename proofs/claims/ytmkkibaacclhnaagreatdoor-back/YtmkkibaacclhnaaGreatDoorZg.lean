/-
  A step of the walk, the part named Zg. No theorem of the row.
-/
import Derived.Test.YtmkkibaacclhnaaGreatDoorYa
import Derived.Test.YtmkkibaacclhnaaGreatDoorYb
import Derived.Test.YtmkkibaacclhnaaGreatDoorWa
import Derived.BigQuiet
import Derived.Test.YtmkkibaacclhnaaGreatDoorWd
import Derived.Test.YtmkkibaacclhnaaGreatDoorRe
import Derived.Deep.RegionHeld3
namespace Go.Proofs.YtmkkibaacclhnaaGreatDoor
open Go.RowKit
set_option maxRecDepth 100000
set_option maxHeartbeats 16000000
def Lf (x:It):Prop:=goodI (toIm x)=true∧x.k<5∧x.b<18446744073709551616
def arrI (ps:List (List It)):List It:=⟨5,ps.length,0,[]⟩::ps.flatten
def pairI (p:List UInt8×List It):List It:=⟨4,0,0,p.1⟩::p.2
def objI (ps:List (List UInt8×List It)):List It:=⟨6,ps.length,0,[]⟩::ps.flatMap pairI
def Vl:Nat→List It→Prop
 |0,l=>∃x,l=[x]∧Lf x
 |e+1,l=>(∃x,l=[x]∧Lf x)∨(∃ps:List (List It),l=arrI ps∧∀p,p∈ps→Vl e p)∨(∃ps:List (List UInt8×List It),l=objI ps∧∀p,p∈ps→isU p.1=true∧Vl e p.2)
theorem Vl.leaf {x:It} (h:Lf x) (e:Nat):Vl e [x]:=by
 cases e with
 |zero=>exact⟨x,rfl,h⟩
 |succ e=>exact .inl ⟨x,rfl,h⟩
theorem Vl.ne {e:Nat} {l:List It} (h:Vl e l):l≠[]:=by
 cases e with
 |zero=>obtain⟨x,rfl,_⟩:=h;simp
 |succ e=>
  rcases h with⟨x,rfl,_⟩|⟨ps,rfl,_⟩|⟨ps,rfl,_⟩
  ·simp
  ·simp[arrI]
  ·simp[objI]
theorem parts_arrI {sz:List Im→Nat} (ps:List (List It)) (h:∀p,p∈ps→p≠[]∧∀T,sz (ims p++T)=p.length) (T:List Im):partsG sz false ps.length (ims ps.flatten++T)=some ps.flatten.length:=by
 induction ps with
 |nil=>rfl
 |cons p ps ih=>
  obtain⟨h0,h1⟩:=h p (by simp);rw[List.flatten_cons,ims_append,List.append_assoc,List.length_cons,parts_arr1 (fun T=>by rw[h1 T,ims_length]) (by simpa[ims]using h0),ih (fun q hq=>h q (by simp[hq]))];simp[ims_length]
theorem parts_objI {sz:List Im→Nat} (ps:List (List UInt8×List It)) (h:∀p,p∈ps→isU p.1=true∧p.2≠[]∧∀T,sz (ims p.2++T)=p.2.length) (T:List Im):partsG sz true ps.length (ims (ps.flatMap pairI)++T)=some (ps.flatMap pairI).length:=by
 induction ps with
 |nil=>rfl
 |cons p ps ih=>
  obtain⟨hu,h0,h1⟩:=h p (by simp)
  have hp:∀T,partsG sz true 1 (ims (pairI p)++T)=some (ims (pairI p)).length:=fun T=>by
   have:=pair_obj (sz:=sz) (x:=toIm ⟨4,0,0,p.1⟩) (A:=ims p.2) (T:=T) rfl (good_text hu) (by rw[h1 T,ims_length]) (by simpa[ims]using h0);rw[ims_length]at this;rw[ims_length];exact this
  rw[List.flatMap_cons,ims_append,List.append_assoc,List.length_cons,parts_obj1 hp,ih (fun q hq=>h q (by simp[hq]))];simp[ims_length]
theorem Vl.size {e d:Nat} {l:List It} (h:Vl e l) (hd:e≤d) (T:List Im):sizeD d (ims l++T)=l.length:=by
 induction e generalizing d l T with
 |zero=>obtain⟨x,rfl,h1,h2,_⟩:=h;exact size_one h1 h2
 |succ e ih=>
  rcases h with⟨x,rfl,h1,h2,_⟩|⟨ps,rfl,h⟩|⟨ps,rfl,h⟩
  ·exact size_one h1 h2
  ·obtain⟨d,rfl⟩:∃d',d=d'+1:=⟨d-1,by omega⟩
   exact size_nest (.inl rfl) (parts_arrI ps (fun p hp=>⟨(h p hp).ne,fun T=>ih (h p hp) (by omega) T⟩) T)
  ·obtain⟨d,rfl⟩:∃d',d=d'+1:=⟨d-1,by omega⟩
   exact size_nest (.inr rfl) (parts_objI ps (fun p hp=>⟨(h p hp).1,(h p hp).2.ne,fun T=>ih (h p hp).2 (by omega) T⟩) T)
theorem Vl.bok {e:Nat} {l:List It} (h:Vl e l):Bok (ims l):=by
 induction e generalizing l with
 |zero=>obtain⟨x,rfl,_,_,h⟩:=h;exact bok_one h
 |succ e ih=>
  rcases h with⟨x,rfl,_,_,h⟩|⟨ps,rfl,h⟩|⟨ps,rfl,h⟩
  ·exact bok_one h
  ·intro y hy
   simp only[ims,arrI,List.map_cons,List.mem_cons,List.mem_map,List.mem_flatten]at hy;rcases hy with rfl|⟨x,⟨p,hp,hx⟩,rfl⟩
   ·show 0<_;omega
   ·exact ih (h p hp) _ (List.mem_map.2 ⟨x,hx,rfl⟩)
  ·intro y hy
   simp only[ims,objI,List.map_cons,List.mem_cons,List.mem_map,List.mem_flatMap]at hy;rcases hy with rfl|⟨x,⟨p,hp,hx⟩,rfl⟩
   ·show 0<_;omega
   ·rcases List.mem_cons.1 hx with rfl|hx
    ·show 0<_;omega
    ·exact ih (h p hp).2 _ (List.mem_map.2 ⟨x,hx,rfl⟩)
theorem wr_leaf1 (indent:Int) (so:Bool) (d:Nat) {x:It} (h:x.k<5) (T:List Im):wrD indent so d (ims [x]++T)=leafT (toIm x):=by
 show wrD indent so d (toIm x::T)=leafT (toIm x)
 cases d with
 |zero=>rw[wrD]
 |succ d=>rw[wrD,if_pos (by show(x.k:Int)<5;omega)]
theorem partsW_arr {sz:List Im→Nat} {wr:List Im→List UInt8} {indent:Int} (ps:List (List It)) (h:∀p,p∈ps→∀T,sz (ims p++T)=p.length∧wr (ims p++T)=wr (ims p)) (T:List Im):partsW sz wr indent false ps.length (ims ps.flatten++T)=ps.map (fun p=>([],wr (ims p))):=by
 induction ps with
 |nil=>rfl
 |cons p ps ih=>
  obtain⟨h1,h2⟩:=h p (by simp) (ims ps.flatten++T);rw[List.flatten_cons,ims_append,List.append_assoc,List.length_cons,partsW.eq_def];simp only[Bool.false_eq_true,if_false];rw[h1,h2,List.drop_left' (ims_length p),ih (fun q hq=>h q (by simp[hq])),List.map_cons]
theorem partsW_obj {sz:List Im→Nat} {wr:List Im→List UInt8} {indent:Int} (ps:List (List UInt8×List It)) (h:∀p,p∈ps→∀T,sz (ims p.2++T)=p.2.length∧wr (ims p.2++T)=wr (ims p.2)) (T:List Im):partsW sz wr indent true ps.length (ims (ps.flatMap pairI)++T)=ps.map (fun p=>(p.1,headL indent p.1++wr (ims p.2))):=by
 induction ps with
 |nil=>rfl
 |cons p ps ih=>
  obtain⟨h1,h2⟩:=h p (by simp) (ims (ps.flatMap pairI)++T);have e:ims (pairI p)++(ims (ps.flatMap pairI)++T)=toIm ⟨4,0,0,p.1⟩::(ims p.2++(ims (ps.flatMap pairI)++T)):=rfl;rw[List.flatMap_cons,ims_append,List.append_assoc,List.length_cons,e,partsW.eq_def];simp only[if_true];rw[h1,h2,List.drop_left' (ims_length p.2),ih (fun q hq=>h q (by simp[hq])),List.map_cons];rfl
theorem wr_arr1 (indent:Int) (so:Bool) (d:Nat) (ps:List (List It)) (h:∀p,p∈ps→∀T,sizeD d (ims p++T)=p.length∧wrD indent so d (ims p++T)=wrD indent so d (ims p)) (T:List Im):
 wrD indent so (d+1) (ims (arrI ps)++T)=joinL indent (999-d) false (ps.map (fun p=>wrD indent so d (ims p))):=by
 show wrD indent so (d+1) (toIm ⟨5,ps.length,0,[]⟩::(ims ps.flatten++T))=_
 rw[wrD,if_neg (by show¬((5:Int)<5);omega)];have e:decide ((toIm ⟨5,ps.length,0,[]⟩).k=6)=false:=rfl;rw[e,Bool.and_false,show(toIm ⟨5,ps.length,0,[]⟩).n.toNat=ps.length from Int.toNat_natCast _,partsW_arr ps h T,ordL_false,List.map_map];rfl
theorem wr_obj1 (indent:Int) (so:Bool) (d:Nat) (ps:List (List UInt8×List It)) (h:∀p,p∈ps→∀T,sizeD d (ims p.2++T)=p.2.length∧wrD indent so d (ims p.2++T)=wrD indent so d (ims p.2)) (T:List Im):
 wrD indent so (d+1) (ims (objI ps)++T)=joinL indent (999-d) true ((ordL so (ps.map (fun p=>(p.1,headL indent p.1++wrD indent so d (ims p.2))))).map (·.2)):=by
 show wrD indent so (d+1) (toIm ⟨6,ps.length,0,[]⟩::(ims (ps.flatMap pairI)++T))=_
 rw[wrD,if_neg (by show¬((6:Int)<5);omega)];have e:decide ((toIm ⟨6,ps.length,0,[]⟩).k=6)=true:=rfl;rw[e,Bool.and_true,show(toIm ⟨6,ps.length,0,[]⟩).n.toNat=ps.length from Int.toNat_natCast _,partsW_obj ps h T]
theorem Vl.loc {e d:Nat} {l:List It} (h:Vl e l) (hd:e≤d) (indent:Int) (so:Bool) (T:List Im):wrD indent so d (ims l++T)=wrD indent so d (ims l):=by
 induction e generalizing d l T with
 |zero=>
  obtain⟨x,rfl,_,h2,_⟩:=h;have:=wr_leaf1 indent so d h2 [];rw[List.append_nil]at this;rw[wr_leaf1 indent so d h2 T,this]
 |succ e ih=>
  rcases h with⟨x,rfl,_,h2,_⟩|⟨ps,rfl,h⟩|⟨ps,rfl,h⟩
  ·have:=wr_leaf1 indent so d h2 []
   rw[List.append_nil]at this;rw[wr_leaf1 indent so d h2 T,this]
  ·obtain⟨d,rfl⟩:∃d',d=d'+1:=⟨d-1,by omega⟩
   have hh:∀p,p∈ps→∀T,sizeD d (ims p++T)=p.length∧wrD indent so d (ims p++T)=wrD indent so d (ims p):=fun p hp T=>⟨(h p hp).size (by omega) T,ih (h p hp) (by omega) T⟩
   have:=wr_arr1 indent so d ps hh [];rw[List.append_nil]at this;rw[wr_arr1 indent so d ps hh T,this]
  ·obtain⟨d,rfl⟩:∃d',d=d'+1:=⟨d-1,by omega⟩
   have hh:∀p,p∈ps→∀T,sizeD d (ims p.2++T)=p.2.length∧wrD indent so d (ims p.2++T)=wrD indent so d (ims p.2):=fun p hp T=>⟨(h p hp).2.size (by omega) T,ih (h p hp).2 (by omega) T⟩
   have:=wr_obj1 indent so d ps hh [];rw[List.append_nil]at this;rw[wr_obj1 indent so d ps hh T,this]
theorem wr_lf (indent:Int) (so:Bool) (d:Nat) {x:It} (h:Lf x):wrD indent so d (ims [x])=leafT (toIm x):=by
 have:=wr_leaf1 indent so d h.2.1 [];rwa[List.append_nil]at this
theorem wr_ar (indent:Int) (so:Bool) {e d:Nat} {ps:List (List It)} (h:∀p,p∈ps→Vl e p) (hd:e≤d):wrD indent so (d+1) (ims (arrI ps))=joinL indent (999-d) false (ps.map (fun p=>wrD indent so d (ims p))):=by
 have:=wr_arr1 indent so d ps (fun p hp T=>⟨(h p hp).size hd T,(h p hp).loc hd indent so T⟩) [];rwa[List.append_nil]at this
theorem wr_ob (indent:Int) (so:Bool) {e d:Nat} {ps:List (List UInt8×List It)} (h:∀p,p∈ps→isU p.1=true∧Vl e p.2) (hd:e≤d):wrD indent so (d+1) (ims (objI ps))=joinL indent (999-d) true ((ordL so (ps.map (fun p=>(p.1,headL indent p.1++wrD indent so d (ims p.2))))).map (·.2)):=by
 have:=wr_obj1 indent so d ps (fun p hp T=>⟨(h p hp).2.size hd T,(h p hp).2.loc hd indent so T⟩) [];rwa[List.append_nil]at this
theorem joinGo_lenE (indent:Int) (inn:Nat) (ps:List (List UInt8)):(joinGo indent inn false ps).length=(ps.map (·.length)).sum+ps.length*((lineL indent inn).length+1):=by
 induction ps with
 |nil=>simp[joinGo]
 |cons p ps ih=>
  rw[joinGo];simp only[List.length_append,ih,List.map_cons,List.sum_cons,List.length_cons,Bool.false_eq_true,if_false,List.length_nil,Nat.add_mul,Nat.one_mul];omega
theorem joinL_lenE (indent:Int) (inn:Nat) (obj:Bool) (ps:List (List UInt8)):(joinL indent inn obj ps).length=if ps.length=0 then 2 else(ps.map (·.length)).sum+ps.length*((lineL indent (inn+1)).length+1)+(lineL indent inn).length+1:=by
 unfold joinL;split
 ·rfl
 ·rename_i h
  cases ps with
  |nil=>exact absurd rfl h
  |cons p ps=>
   rw[joinGo];simp only[List.length_append,List.length_cons,List.length_nil,joinGo_lenE,List.map_cons,List.sum_cons,if_true,Nat.add_mul,Nat.one_mul];omega
theorem joinL_same {indent:Int} {inn:Nat} {obj:Bool} {ps qs:List (List UInt8)} (h1:ps.length=qs.length) (h2:(ps.map (·.length)).sum=(qs.map (·.length)).sum):(joinL indent inn obj ps).length=(joinL indent inn obj qs).length:=by
 rw[joinL_lenE,joinL_lenE,h1,h2]
theorem sum_perm {a b:List Nat} (h:a.Perm b):a.sum=b.sum:=by
 induction h with
 |nil=>rfl
 |cons x _ ih=>simp[ih]
 |swap x y l=>simp;omega
 |trans _ _ h1 h2=>exact h1.trans h2
def Same (indent:Int) (e:Nat) (l l':List It):Prop:=Vl e l'∧∀d,e≤d→wrD indent true d (ims l)=wrD indent false d (ims l')∧wrD indent true d (ims l')=wrD indent false d (ims l')∧(wrD indent false d (ims l')).length=(wrD indent false d (ims l)).length
theorem same_lf (indent:Int) (e:Nat) {x:It} (h:Lf x):Same indent e [x] [x]:=
 ⟨Vl.leaf h e,fun d _=>by rw[wr_lf _ _ _ h,wr_lf _ _ _ h];exact⟨rfl,rfl,rfl⟩⟩
theorem Vl.sort (indent:Int) (e:Nat):∀l,Vl e l→∃l',Same indent e l l':=by
 induction e with
 |zero=>rintro l ⟨x,rfl,h⟩;exact⟨_,same_lf indent 0 h⟩
 |succ e ih=>
  have hg:∃g:List It→List It,∀l,Vl e l→Same indent e l (g l):=by
   refine⟨fun l=>open Classical in if h:Vl e l then(ih l h).choose else l,fun l h=>?_⟩;simp only;rw[dif_pos h];exact(ih l h).choose_spec
  obtain⟨g,hg⟩:=hg;rintro l (⟨x,rfl,h⟩|⟨ps,rfl,h⟩|⟨ps,rfl,h⟩)
  ·exact⟨_,same_lf indent _ h⟩
  ·have h':∀p,p∈ps.map g→Vl e p:=fun p hp=>by
    obtain⟨q,hq,rfl⟩:=List.mem_map.1 hp;exact(hg q (h q hq)).1
   refine⟨arrI (ps.map g),.inr (.inl ⟨_,rfl,h'⟩),fun d hd=>?_⟩;obtain⟨d,rfl⟩:∃d',d=d'+1:=⟨d-1,by omega⟩;have hd:e≤d:=by omega
   rw[wr_ar indent true h hd,wr_ar indent false h' hd,wr_ar indent true h' hd,wr_ar indent false h hd]
   have e1:(ps.map g).map (fun p=>wrD indent false d (ims p))=ps.map (fun p=>wrD indent true d (ims p)):=by
    rw[List.map_map];exact List.map_congr_left fun p hp=>((hg p (h p hp)).2 d hd).1.symm
   have e2:(ps.map g).map (fun p=>wrD indent true d (ims p))=(ps.map g).map (fun p=>wrD indent false d (ims p)):=by
    rw[List.map_map,List.map_map];exact List.map_congr_left fun p hp=>((hg p (h p hp)).2 d hd).2.1
   refine⟨by rw[e1],by rw[e2],joinL_same (by simp) ?_⟩;rw[List.map_map,List.map_map,List.map_map];congr 1;exact List.map_congr_left fun p hp=>((hg p (h p hp)).2 d hd).2.2
  ·generalize hQ:ps.map (fun p=>(p.1,g p.2))=Q
   have hQ':∀p,p∈Q→isU p.1=true∧Vl e p.2∧∀d,e≤d→wrD indent true d (ims p.2)=wrD indent false d (ims p.2):=fun p hp=>by
    rw[←hQ]at hp;obtain⟨q,hq,rfl⟩:=List.mem_map.1 hp;exact⟨(h q hq).1,(hg _ (h q hq).2).1,fun d hd=>((hg _ (h q hq).2).2 d hd).2.1⟩
   have hO:∀p,p∈ordK Q→isU p.1=true∧Vl e p.2:=fun p hp=>⟨(hQ' p ((ordK_perm Q).mem_iff.1 hp)).1,(hQ' p ((ordK_perm Q).mem_iff.1 hp)).2.1⟩
   refine⟨objI (ordK Q),.inr (.inr ⟨_,rfl,hO⟩),fun d hd=>?_⟩;obtain⟨d,rfl⟩:∃d',d=d'+1:=⟨d-1,by omega⟩;have hd:e≤d:=by omega
   rw[wr_ob indent true h hd,wr_ob indent false hO hd,wr_ob indent true hO hd,wr_ob indent false h hd]
   have eA:ps.map (fun p=>(p.1,headL indent p.1++wrD indent true d (ims p.2)))=Q.map (fun p=>(p.1,headL indent p.1++wrD indent false d (ims p.2))):=by
    rw[←hQ,List.map_map]
    exact List.map_congr_left fun p hp=>by
     show(p.1,headL indent p.1++wrD indent true d (ims p.2))=(p.1,headL indent p.1++wrD indent false d (ims (g p.2)))
     rw[((hg _ (h p hp).2).2 d hd).1]
   have eB:(ordK Q).map (fun p=>(p.1,headL indent p.1++wrD indent true d (ims p.2)))=(ordK Q).map (fun p=>(p.1,headL indent p.1++wrD indent false d (ims p.2))):=
    List.map_congr_left fun p hp=>by
     show(p.1,headL indent p.1++wrD indent true d (ims p.2))=(p.1,headL indent p.1++wrD indent false d (ims p.2))
     rw[(hQ' p ((ordK_perm Q).mem_iff.1 hp)).2.2 d hd]
   have eC:ordK ((ordK Q).map (fun p=>(p.1,headL indent p.1++wrD indent false d (ims p.2))))=(ordK Q).map (fun p=>(p.1,headL indent p.1++wrD indent false d (ims p.2))):=by
    rw[ordK_map (fun p=>(p.1,headL indent p.1++wrD indent false d (ims p.2))) (fun _=>rfl),ordK_same (ordK_sorted Q)]
   rw[eA,eB,ordL_true,ordL_true,ordL_false,ordL_false,eC,ordK_map (fun p=>(p.1,headL indent p.1++wrD indent false d (ims p.2))) (fun _=>rfl)];refine⟨rfl,rfl,joinL_same ?_ ?_⟩
   ·have:=(ordK_perm Q).length_eq
    rw[←hQ]at this ⊢;simpa using this
   ·have hp:=((ordK_perm Q).map (fun p=>(headL indent p.1++wrD indent false d (ims p.2)).length))
    rw[List.map_map,List.map_map,List.map_map,List.map_map];refine(sum_perm hp).trans ?_;rw[←hQ,List.map_map];congr 1
    exact List.map_congr_left fun p hp=>by
     show(headL indent p.1++wrD indent false d (ims (g p.2))).length=(headL indent p.1++wrD indent false d (ims p.2)).length
     rw[List.length_append,List.length_append,((hg _ (h p hp).2).2 d hd).2.2]
def tabT:List (List UInt8):=[[],[97],[98],[107,101,121],[34],[92],[0],[10],[195,164],[226,128,168],[240,157,132,158],[47],[97,32,98],[31],[127],[239,191,191]]
theorem tabT_ok:∀k:Fin 16,∃s,tabT[k.1]? =some s∧isU s=true∧s.length≤4:=by
 have h:∀k:Fin 16,isU (tabT[k.1]?.getD [])=true∧(tabT[k.1]?.getD []).length≤4:=by decide
 intro k;have hk:k.1<tabT.length:=k.2;have:=h k;rw[List.getElem?_eq_getElem hk]at this ⊢;exact⟨_,rfl,this⟩
def tabV:Array Value:=#[.string ⟨#[]⟩,.string ⟨#[97]⟩,.string ⟨#[98]⟩,.string ⟨#[107,101,121]⟩,.string ⟨#[34]⟩,.string ⟨#[92]⟩,.string ⟨#[0]⟩,.string ⟨#[10]⟩,.string ⟨#[195,164]⟩,.string ⟨#[226,128,168]⟩,.string ⟨#[240,157,132,158]⟩,.string ⟨#[47]⟩,.string ⟨#[97,32,98]⟩,.string ⟨#[31]⟩,.string ⟨#[127]⟩,.string ⟨#[239,191,191]⟩]
theorem tabV_is:tabV=(tabT.map fun s=>Value.string (ofL s)).toArray:=rfl
theorem tab_cell (w:World) {m:Nat} {s:List UInt8} (h:tabT[m]? =some s):(w.alloc (.cells tabV 9)).cell? ⟨w.heap.size,m,none⟩=some (.string (ofL s)):=by
 refine blk_cell (heap_alloc_new w (.cells tabV 9)) ?_;rw[tabV_is,List.getElem?_toArray,List.getElem?_map,h];rfl
theorem texT_any (b:Nat) (w:World) (hb:b<18446744073709551616):
 Calls Tryz.prog 29 #[.int .u64 (b:Int)] w fun e w'=>∃t,isU t=true∧t.length≤8∧e=.returned (.string (ofL t))∧Fr (fun _=>False) w w':=by
 have h1:Int.tmod (b:Int) 16=((b % 16:Nat):Int):=by rw[Int.tmod_eq_emod_of_nonneg (by omega)];omega
 have h2:Int.tdiv (b:Int) 16=((b/16:Nat):Int):=by rw[Int.tdiv_eq_ediv_of_nonneg (by omega)];omega
 have h3:Int.tmod ((b/16:Nat):Int) 16=((b/16 % 16:Nat):Int):=by rw[Int.tmod_eq_emod_of_nonneg (by omega)];omega
 obtain⟨s1,g1,u1,l1⟩:=tabT_ok ⟨b % 16,by omega⟩;obtain⟨s2,g2,u2,l2⟩:=tabT_ok ⟨b/16 % 16,by omega⟩;simp only at g1 g2;have c1:=tab_cell w g1;have c2:=tab_cell w g2;have m1:b % 16<16:=by omega
 have m2:b/16 % 16<16:=by omega
 have hq:=IntWalk.u64_in ((b/16:Nat):Int) ⟨by omega,by omega⟩;have z1:=ofL_size s1;have z2:=ofL_size s2;have HU:=hid (isU_append u1 u2);have HL:=hid (show(s1++s2).length≤8 by rw[List.length_append];omega);have HF:=hid (((Fr.refl (fun _=>False) w).alloc (.cells tabV 9)));clear hb;generalize b % 16=m at*;generalize b/16 % 16=n at*;generalize ((b/16:Nat):Int)=q at*;generalize (b:Int)=B at*;clear g1 g2 u1 u2;unfold tabV at c1 c2 HF;go_enter Tryz.func29,Tryz.ntmps29
 go_wp2_with fail
 generalize w.alloc (.cells #[.string ⟨#[]⟩,.string ⟨#[97]⟩,.string ⟨#[98]⟩,.string ⟨#[107,101,121]⟩,.string ⟨#[34]⟩,.string ⟨#[92]⟩,.string ⟨#[0]⟩,.string ⟨#[10]⟩,.string ⟨#[195,164]⟩,.string ⟨#[226,128,168]⟩,.string ⟨#[240,157,132,158]⟩,.string ⟨#[47]⟩,.string ⟨#[97,32,98]⟩,.string ⟨#[31]⟩,.string ⟨#[127]⟩,.string ⟨#[239,191,191]⟩] 9)=W at*;generalize w.heap.size=g at*;have i1:(m:Int)<16:=by omega
 have i2:(n:Int)<16:=by omega
 have s1z:s1.length+s2.length≤8:=by omega
 go_quiet (fail);go_wp2;go_ret;exact⟨s1++s2,HU.out,HL.out,by show Ending.returned (Value.string (ofL s1++ofL s2))=_;rw[ofL_append],HF.out.drewN nq⟩
def RawR (w:World) (pr:Option Addr) (n:Nat):Prop:=∀i,i<n→∃(ad:Addr) (k c:Int) (b:Nat),pr=some ad∧ad.block<w.heap.size∧w.cell? (ad.add (i*3))=some (.int .i64 k)∧w.cell? ((ad.add (i*3)).add 1)=some (.int .i64 c)∧w.cell? ((ad.add (i*3)).add 2)=some (.int .u64 (b:Int))∧
 (-9223372036854775808≤k∧k<9223372036854775808)∧(-9223372036854775808≤c∧c<9223372036854775808)∧b<18446744073709551616
theorem RawR.fr {w w':World} {pr:Option Addr} {n:Nat} (h:RawR w pr n) (hf:Fr (fun _=>False) w w'):RawR w' pr n:=by
 intro i hi;obtain⟨ad,k,c,b,h1,h2,h3,h4,h5,h6⟩:=h i hi;have q:∀j,w'.cell? (ad.add j)=w.cell? (ad.add j):=fun j=>hf.cell (p:=ad.add j) (by rw[add_block];exact h2) id
 have q2:∀j m,w'.cell? ((ad.add j).add m)=w.cell? ((ad.add j).add m):=fun j m=>hf.cell (p:=(ad.add j).add m) (by rw[add_block,add_block];exact h2) id
 exact⟨ad,k,c,b,h1,Nat.lt_of_lt_of_le h2 hf.size,by rw[q];exact h3,by rw[q2];exact h4,by rw[q2];exact h5,h6⟩
def bdCells (vr:Value) (a:Nat) (vo:Value):Array Value:=#[vr,.int .i64 (a:Int),vo]
structure BC (B:Nat) (w0:World) (S:Nat→Prop) (w1:World) (vr vo:Value) (W:World) (a:Nat) (l:List It):Prop where
 blk:W.heap[B]? =some (.cells (bdCells vr a vo) 35 (0,0))
 row:W.ownsRow 0 29 4 vo l.length (itsV l)
 fr:Fr (fun _=>False) w0 W
 hB:w0.heap.size≤B
 hv:∀i,vo.ownBlock=some i→w0.heap.size≤i
 fs:Fr S w1 W
 sB:S B
 sv:∀i,vo.ownBlock=some i→S i∨w1.heap.size≤i
 sz:w0.heap.size≤w1.heap.size
theorem BC.frm {B:Nat} {w0:World} {S:Nat→Prop} {w1:World} {vr vo:Value} {W W':World} {a:Nat} {l:List It} (h:BC B w0 S w1 vr vo W a l) (hf:Fr (fun _=>False) W W'):BC B w0 S w1 vr vo W' a l:=
 ⟨hf.heap h.blk id,ownsRow_fr h.row hf,h.fr.trans hf,h.hB,h.hv,h.fs.trans (hf.mono fun _ h=>h.elim),h.sB,h.sv,h.sz⟩
theorem BC.start {B:Nat} {w0:World} {S:Nat→Prop} {w1:World} {vr vo:Value} {W:World} {a:Nat} {l:List It} (h:BC B w0 S w1 vr vo W a l):BC B w0 (fun i=>i=B∨vo.ownBlock=some i) W vr vo W a l:=
 ⟨h.blk,h.row,h.fr,h.hB,h.hv,Fr.refl _ _,.inl rfl,fun _ hi=>.inl (.inr hi),h.fr.size⟩
theorem BC.trans {B:Nat} {w0:World} {S:Nat→Prop} {w1:World} {vr vo vo':Value} {W W':World} {a a':Nat} {l l':List It} (h:BC B w0 S w1 vr vo W a l) (k:BC B w0 (fun i=>i=B∨vo.ownBlock=some i) W vr vo' W' a' l'):BC B w0 S w1 vr vo' W' a' l':=by
 have hS:∀i,(i=B∨vo.ownBlock=some i)→S i∨w1.heap.size≤i:=fun i hi=>hi.elim (fun e=>.inl (e▸h.sB)) (h.sv i)
 refine⟨k.blk,k.row,k.fr,k.hB,k.hv,h.fs.trans' k.fs hS,h.sB,fun i hi=>?_,h.sz⟩;rcases k.sv i hi with h1|h1
 ·exact hS i h1
 ·exact .inr (Nat.le_trans h.fs.size h1)
theorem BC.more {B:Nat} {w0:World} {S:Nat→Prop} {w1:World} {vr vo:Value} {W:World} {a:Nat} {l:List It} (h:BC B w0 S w1 vr vo W a l):BC B w0 S w1 vr vo (W.setCell ⟨B,1,none⟩ (.int .i64 ((a:Int)+1))) (a+1) l:=
 ⟨heap_setCell_same W B 1 _ 35 _ h.blk,rowSetOther h.row (rowT h.row h.blk (by decide)) _,h.fr.setCell (p:=⟨B,1,none⟩) (.inr h.hB) _,h.hB,h.hv,h.fs.setCell (p:=⟨B,1,none⟩) (.inl h.sB) _,h.sB,h.sv,h.sz⟩
theorem BC.other {B:Nat} {w0:World} {S:Nat→Prop} {w1:World} {vr vo:Value} {W:World} {a:Nat} {l:List It} (h:BC B w0 S w1 vr vo W a l) {R T j:Nat} {cs:Array Value} (hR:W.heap[R]? =some (.cells cs T (0,0))) (hT:T≠29) (hne:R≠B) (hn:w1.heap.size≤R) (v:Value):BC B w0 S w1 vr vo (W.setCell ⟨R,j,none⟩ v) a l:=
 ⟨((Fr.refl (fun i=>i=R) W).setCell (p:=⟨R,j,none⟩) (.inl rfl) v).heap h.blk (fun e=>hne e.symm),rowSetOther h.row (rowT h.row hR hT) _,h.fr.setCell (p:=⟨R,j,none⟩) (.inr (Nat.le_trans h.sz hn)) _,h.hB,h.hv,h.fs.setCell (p:=⟨R,j,none⟩) (.inr hn) _,h.sB,h.sv,h.sz⟩
theorem BC.grow {B:Nat} {w0:World} {S:Nat→Prop} {w1 W w2:World} {vr vo vo':Value} {a:Nat} {l:List It} {ob:Obj} (x:It) (h:BC B w0 S w1 vr vo W a l) (hown:w2.ownsRow 0 29 4 vo' (l.length+1) (itsV l++itCells x)) (hg:(W.alloc ob).grownBy w2 vo.ownBlock)
 (hn:∀g,vo'.ownBlock=some g→vo.ownBlock=some g∨W.heap.size+1≤g):
 w2.heap[B]? =some (.cells (bdCells vr a vo) 35 (0,0))∧BC B w0 S w1 vr vo' (w2.setCell ⟨B,2,none⟩ vo') a (l++[x])∧
  ∀(R T:Nat) (cs:Array Value),W.heap[R]? =some (.cells cs T (0,0))→T≠29→R≠B→(w2.setCell ⟨B,2,none⟩ vo').heap[R]? =some (.cells cs T (0,0)):=by
 obtain⟨p,b,g,hB,hv,fs,sB,sv,sz⟩:=h
 have keep:∀(R T:Nat) (cs:Array Value),W.heap[R]? =some (.cells cs T (0,0))→T≠29→w2.heap[R]? =some (.cells cs T (0,0)):=fun R T cs hR hT=>by
  have hRl:=lt_of_block hR;have hro:=rowT b hR hT;rw[hg.block R (by simp;omega) (fun e=>hro e.symm),Below.heap_alloc _ _ _ hRl];exact hR
 have hh:=keep B 35 _ p (by decide);have hgs:=g.size;have hfs:=fs.size;refine⟨hh,⟨heap_setCell_same w2 B 2 _ 35 vo' hh,?_,?_,hB,?_,?_,sB,?_,sz⟩,fun R T cs hR hT hne=>?_⟩
 ·have:=rowSetOther hown (a:=⟨B,2,none⟩) (rowT hown hh (by decide)) vo'
  rw[itsV_append,List.length_append];exact this
 ·exact((g.alloc ob).grown hg (fun i hi=>.inr (hv i hi))).setCell (p:=⟨B,2,none⟩) (.inr hB) _
 ·intro i hi
  rcases hn i hi with h1|h1
  ·exact hv i h1
  ·omega
 ·exact((fs.alloc ob).grown hg (fun i hi=>sv i hi)).setCell (p:=⟨B,2,none⟩) (.inl sB) _
 ·intro i hi
  rcases hn i hi with h1|h1
  ·exact sv i h1
  ·exact .inr (by omega)
 ·exact((Fr.refl (fun i=>i=B) w2).setCell (p:=⟨B,2,none⟩) (.inl rfl) vo').heap (keep R T cs hR hT) hne
theorem BC.cells {B:Nat} {w0:World} {S:Nat→Prop} {w1:World} {vr vo:Value} {W:World} {a:Nat} {l:List It} (h:BC B w0 S w1 vr vo W a l):W.cell? ⟨B,0,none⟩=some vr∧W.cell? ⟨B,1,none⟩=some (.int .i64 (a:Int))∧W.cell? ⟨B,2,none⟩=some vo∧W.frozen? ⟨B,1,none⟩=false∧W.frozen? ⟨B,2,none⟩=false:=
 ⟨blk_cell h.blk rfl,blk_cell h.blk rfl,blk_cell h.blk rfl,blk_free (j:=1) h.blk,blk_free (j:=2) h.blk⟩
def lw (l:List It):Nat:=(l.map fun x=>6*x.s.length+500).sum
theorem lw_append (a b:List It):lw (a++b)=lw a+lw b:=by simp[lw]
def BPost (B:Nat) (w0:World) (S:Nat→Prop) (w1:World) (vr:Value) (k a:Nat) (l:List It) (e:Ending) (w':World):Prop:=
 e=.returned (.tuple #[])∧∃vo' a' its,BC B w0 S w1 vr vo' w' a' (l++its)∧Vl (k+1) its∧a<a'∧a'≤max (a+1) (60+3*k)∧its.length+1≤2*(a'-a)∧lw its+548≤1100*(a'-a)
theorem BPost.leaf {B:Nat} {w0:World} {S:Nat→Prop} {w1:World} {vr vo:Value} {k a:Nat} {l:List It} {x:It} {w':World} (h:BC B w0 S w1 vr vo w' (a+1) (l++[x])) (hx:Vl (k+1) [x]) (hs:x.s.length≤8):BPost B w0 S w1 vr k a l (.returned (.tuple #[])) w':=
 ⟨rfl,vo,a+1,[x],h,hx,by omega,by omega,by simp only[List.length_singleton];omega,by simp only[lw,List.map_cons,List.map_nil,List.sum_cons,List.sum_nil];omega⟩
theorem lf_num {b:Nat} (h1:b<18446744073709551616) (h2:b % 9223372036854775808<9218868437227405312):Lf ⟨3,0,b,[]⟩:=⟨good_num h2,by show 3<5;omega,h1⟩
theorem lf_text {s:List UInt8} (h:isU s=true):Lf ⟨4,0,0,s⟩:=⟨good_text h,by show 4<5;omega,by show 0<_;omega⟩
theorem lf_word {k:Nat} (h:k<3):Lf ⟨k,0,0,[]⟩:=⟨good_word (by omega),by show k<5;omega,by show 0<_;omega⟩
theorem vl_none {k e:Nat} (h:k=5∨k=6):Vl (e+1) [⟨k,0,0,[]⟩]:=by
 rcases h with rfl|rfl
 ·exact .inr (.inl ⟨[],rfl,fun p hp=>by cases hp⟩)
 ·exact .inr (.inr ⟨[],rfl,fun p hp=>by cases hp⟩)
def PartsI (kd e i:Nat) (its:List It):Prop:=(kd=5∧∃ps:List (List It),ps.length=i∧its=ps.flatten∧∀p,p∈ps→Vl e p)∨(kd=6∧∃ps:List (List UInt8×List It),ps.length=i∧its=ps.flatMap pairI∧∀p,p∈ps→isU p.1=true∧Vl e p.2)
theorem PartsI.zero {kd e:Nat} (h:kd=5∨kd=6):PartsI kd e 0 []:=by
 rcases h with h|h
 ·exact .inl ⟨h,[],rfl,rfl,fun p hp=>by cases hp⟩
 ·exact .inr ⟨h,[],rfl,rfl,fun p hp=>by cases hp⟩
theorem PartsI.arr {e i:Nat} {its x:List It} (h:PartsI 5 e i its) (hx:Vl e x):PartsI 5 e (i+1) (its++x):=by
 rcases h with⟨_,ps,h1,h2,h3⟩|⟨h,_⟩
 ·refine .inl ⟨rfl,ps++[x],by simp[h1],by simp[h2],fun p hp=>?_⟩
  rcases List.mem_append.1 hp with hp|hp
  ·exact h3 p hp
  ·rw[List.mem_singleton.1 hp];exact hx
 ·omega
theorem PartsI.obj {e i:Nat} {its x:List It} {s:List UInt8} (h:PartsI 6 e i its) (hs:isU s=true) (hx:Vl e x):PartsI 6 e (i+1) (its++[⟨4,0,0,s⟩]++x):=by
 rcases h with⟨h,_⟩|⟨_,ps,h1,h2,h3⟩
 ·omega
 ·refine .inr ⟨rfl,ps++[(s,x)],by simp[h1],by simp[h2,pairI],fun p hp=>?_⟩
  rcases List.mem_append.1 hp with hp|hp
  ·exact h3 p hp
  ·rw[List.mem_singleton.1 hp];exact⟨hs,hx⟩
theorem PartsI.vl {kd e m:Nat} {its:List It} (h:PartsI kd e m its):Vl (e+1) (⟨kd,m,0,[]⟩::its):=by
 rcases h with⟨rfl,ps,h1,h2,h3⟩|⟨rfl,ps,h1,h2,h3⟩
 ·exact .inr (.inl ⟨ps,by rw[arrI,h1,h2],h3⟩)
 ·exact .inr (.inr ⟨ps,by rw[objI,h1,h2],h3⟩)
end Go.Proofs.YtmkkibaacclhnaaGreatDoor
