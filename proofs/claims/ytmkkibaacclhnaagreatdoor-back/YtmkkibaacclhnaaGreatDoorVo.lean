/-
  A step of the walk, the part named Vo. No theorem of the row.
-/
import Derived.Test.YtmkkibaacclhnaaGreatDoorYb
import Derived.StillTailTactics
import Derived.Deep.OwnRows
import Derived.Handy
import Derived.Laws.ResultCell
import Derived.Test.YtmkkibaacclhnaaGreatDoorProg
import Derived.Ground.NamesProg
import Derived.WalkKit
import Derived.WalkMore
import Derived.Below
import Derived.Shelf.Lay
import Derived.Shelf.Strings.Repeat
import Derived.Test.YtmkkibaacclhnaaGreatDoorXcd
import Derived.Test.YtmkkibaacclhnaaGreatDoorWp
import Derived.Deep.RegionHeld3
namespace Go.Proofs.YtmkkibaacclhnaaGreatDoor
open Go.RowKit Go.Shelf
set_option maxRecDepth 100000
set_option maxHeartbeats 16000000
def nextQ (d:Nat) (its:List Im) (obj:Bool) (q:Nat):Nat:=if obj=true then q+1+sizeD d (its.drop (q+1))else q+sizeD d (its.drop q)
def placesL (d:Nat) (its:List Im) (obj:Bool):Nat→Nat→List Nat
 |0,_=>[]
 |c+1,q=>q::placesL d its obj c (nextQ d its obj q)
noncomputable def partT (d:Nat) (indent:Int) (so:Bool) (its:List Im) (obj:Bool) (q:Nat):KT:=
 if obj=true then(keyAt its q,headL indent (keyAt its q)++wrD indent so d (its.drop (q+1)))else([],wrD indent so d (its.drop q))
def PartOk (d:Nat) (its:List Im) (obj:Bool) (q:Nat):Prop:=
 if obj=true then∃x,its[q]? =some x∧x.k=4∧goodI x=true∧sizeD d (its.drop (q+1))≠0 else sizeD d (its.drop q)≠0
theorem drop_cons {its:List Im} {q:Nat} {x:Im} {r:List Im} (h:its.drop q=x::r):its[q]? =some x∧r=its.drop (q+1)∧q<its.length:=by
 have h1:(its.drop q)[0]? =some x:=by rw[h];rfl
 rw[List.getElem?_drop,Nat.add_zero]at h1;refine⟨h1,?_,(List.getElem?_eq_some_iff.1 h1).1⟩;rw[←List.drop_drop,h];rfl
theorem partsG_one {d:Nat} {its:List Im} {obj:Bool} {c q m:Nat} (h:partsG (sizeD d) obj (c+1) (its.drop q)=some m):PartOk d its obj q∧q<nextQ d its obj q∧∃m',partsG (sizeD d) obj c (its.drop (nextQ d its obj q))=some m'∧q+m=nextQ d its obj q+m':=by
 cases obj with
 |false=>
  rw[partsG_arr]at h;by_cases h0:sizeD d (its.drop q)=0
  ·rw[if_pos h0]at h;cases h
  ·rw[if_neg h0,List.drop_drop]at h
   unfold PartOk nextQ;simp only[Bool.false_eq_true,if_false];cases hp:partsG (sizeD d) false c (its.drop (q+sizeD d (its.drop q)))with
   |none=>rw[hp]at h;cases h
   |some m'=>
    rw[hp]at h;simp at h;exact⟨h0,by omega,m',rfl,by omega⟩
 |true=>
  by_cases hk:keyR (its.drop q)=none
  ·rw[partsG_obj_no hk]at h;cases h
  ·obtain⟨-,h2⟩:=partsG_obj (sz:=sizeD d) (c:=c) hk
   rw[h2,List.drop_drop]at h;by_cases h0:sizeD d (its.drop (q+1))=0
   ·rw[if_pos h0]at h;cases h
   ·rw[if_neg h0,List.drop_drop]at h
    unfold PartOk nextQ;simp only[if_true];cases hd:its.drop q with
    |nil=>rw[hd]at hk;exact absurd rfl hk
    |cons x r=>
     obtain⟨e1,e2,e3⟩:=drop_cons hd
     have hx:x.k=4∧goodI x=true:=by
      rw[hd]at hk;unfold keyR at hk;simp only at hk;by_cases hx:x.k=4∧goodI x=true
      ·exact hx
      ·rw[if_neg hx]at hk;exact absurd rfl hk
     cases hp:partsG (sizeD d) true c (its.drop (q+1+sizeD d (its.drop (q+1))))with
     |none=>rw[hp]at h;cases h
     |some m'=>
      rw[hp]at h;simp at h;exact⟨⟨x,e1,hx.1,hx.2,h0⟩,by omega,m',rfl,by omega⟩
theorem keyAt_some {its:List Im} {q:Nat} {x:Im} (h:its[q]? =some x):keyAt its q=x.s:=by unfold keyAt;rw[h];rfl
theorem partsW_places (d:Nat) (indent:Int) (so:Bool) (its:List Im) (obj:Bool) (c q m:Nat) (h:partsG (sizeD d) obj c (its.drop q)=some m):partsW (sizeD d) (wrD indent so d) indent obj c (its.drop q)=(placesL d its obj c q).map (partT d indent so its obj):=by
 induction c generalizing q m with
 |zero=>rfl
 |succ c ih=>
  obtain⟨h1,-,m',h3,-⟩:=partsG_one h;have hih:=ih _ _ h3;cases obj with
  |false=>
   conv=>lhs;unfold partsW
   rw[if_neg (by simp),List.drop_drop];rw[placesL,List.map_cons,←hih];rfl
  |true=>
   cases hd:its.drop q with
   |nil=>
    rw[hd]at h;have hn:partsG (sizeD d) true (c+1) []=none:=partsG_obj_no rfl;rw[hn]at h;cases h
   |cons x r=>
    obtain⟨e1,e2,e3⟩:=drop_cons hd
    conv=>lhs;unfold partsW
    rw[if_pos rfl];simp only;rw[placesL,List.map_cons,←hih,e2,List.drop_drop];unfold partT nextQ;rw[if_pos rfl,if_pos rfl,keyAt_some e1]
theorem places_ok (d:Nat) (its:List Im) (obj:Bool) (c q m:Nat) (h:partsG (sizeD d) obj c (its.drop q)=some m):(placesL d its obj c q).Pairwise (·< ·)∧(∀y,y∈placesL d its obj c q→q≤y∧PartOk d its obj y)∧(placesL d its obj c q).length=c:=by
 induction c generalizing q m with
 |zero=>exact⟨List.Pairwise.nil,fun y hy=>by simp[placesL]at hy,rfl⟩
 |succ c ih=>
  obtain⟨h1,h2,m',h3,-⟩:=partsG_one h;obtain⟨a,b,e⟩:=ih _ _ h3;rw[placesL];refine⟨List.pairwise_cons.2 ⟨fun y hy=>Nat.lt_of_lt_of_le h2 (b y hy).1,a⟩,fun y hy=>?_,by simp[e]⟩;rcases List.mem_cons.1 hy with rfl|hy
  ·exact⟨Nat.le_refl _,h1⟩
  ·exact⟨Nat.le_trans (Nat.le_of_lt h2) (b y hy).1,(b y hy).2⟩
theorem PartOk.lt {d:Nat} {its:List Im} {obj:Bool} {q:Nat} (h:PartOk d its obj q):q<its.length:=by
 unfold PartOk at h;cases obj with
 |true=>simp only[if_true]at h;obtain⟨x,hx,_⟩:=h;exact(List.getElem?_eq_some_iff.1 hx).1
 |false=>
  simp only[Bool.false_eq_true,if_false]at h;have:=sizeD_le d (its.drop q);rw[List.length_drop]at this;omega
def stepN (key:Nat→List UInt8) (so:Bool) (L:List Nat) (p:Nat):List Nat:=
 L.take (if so=true then posGo (L.map key) (key p) L.length else L.length)++[p]++L.drop (if so=true then posGo (L.map key) (key p) L.length else L.length)
theorem stepP_map (key:Nat→List UInt8) (f:Nat→KT) (so:Bool) (hf:so=true→∀q,(f q).1=key q) (L:List Nat) (p:Nat):stepP so (L.map f) (f p)=(stepN key so L p).map f:=by
 unfold stepP stepN;cases so with
 |false=>
  simp only[Bool.false_eq_true,if_false,List.length_map,List.take_length,List.drop_length,List.append_nil,List.map_append,List.map_cons,List.map_nil];have hl:(L.map f).length=L.length:=by simp
  rw[List.take_of_length_le (by omega),List.drop_of_length_le (by omega),List.append_nil]
 |true=>
  have h1:(L.map f).map (·.1)=L.map key:=by
   rw[List.map_map];apply List.map_congr_left;intro q _;exact hf rfl q
  simp only[if_true,h1,hf rfl p,List.length_map,List.map_append,List.map_take,List.map_drop,List.map_cons,List.map_nil]
theorem fold_map (key:Nat→List UInt8) (f:Nat→KT) (so:Bool) (hf:so=true→∀q,(f q).1=key q) (L M:List Nat):(L.map f).foldl (stepP so) (M.map f)=(L.foldl (stepN key so) M).map f:=by
 induction L generalizing M with
 |nil=>rfl
 |cons p L ih=>
  rw[List.map_cons,List.foldl_cons,List.foldl_cons,stepP_map key f so hf,ih]
theorem fold_plain (key:Nat→List UInt8) (L M:List Nat):L.foldl (stepN key false) M=M++L:=by
 induction L generalizing M with
 |nil=>simp
 |cons p L ih=>
  rw[List.foldl_cons,ih];unfold stepN;simp
theorem posGo_spec (ks:List (List UInt8)) (key:List UInt8) (k:Nat):(∀j,posGo ks key k≤j→j<k→ltB key (ks[j]?.getD [])=true)∧(posGo ks key k=0∨ltB key (ks[posGo ks key k-1]?.getD [])=false):=by
 induction k with
 |zero=>exact⟨fun j _ h=>absurd h (by omega),.inl rfl⟩
 |succ k ih=>
  by_cases h:ltB key (ks[k]?.getD [])=true
  ·have e:posGo ks key (k+1)=posGo ks key k:=by simp only[posGo];rw[if_pos h]
   rw[e];refine⟨fun j h1 h2=>?_,ih.2⟩;by_cases hj:j=k
   ·subst hj;exact h
   ·exact ih.1 j h1 (by omega)
  ·have e:posGo ks key (k+1)=k+1:=by simp only[posGo];rw[if_neg h]
   rw[e];exact⟨fun j h1 h2=>absurd h2 (by omega),.inr (by simpa using h)⟩
theorem stepN_sorted (key:Nat→List UInt8) (L:List Nat) (p:Nat) (hs:L.Pairwise (KO key)) (hp:∀y,y∈L→y<p):(stepN key true L p).Pairwise (KO key)∧(stepN key true L p).Perm (L++[p]):=by
 obtain⟨s1,s2⟩:=posGo_spec (L.map key) (key p) L.length;have hle:=posGo_le (L.map key) (key p) L.length;unfold stepN;simp only[if_true];generalize posGo (L.map key) (key p) L.length=k at*;have hget:∀j (hj:j<L.length),((L.map key)[j]?).getD []=key L[j]:=fun j hj=>by rw[List.getElem?_map,List.getElem?_eq_getElem hj];rfl
 constructor
 ·rw[List.append_assoc]
  show(L.take k++p::L.drop k).Pairwise (KO key)
  refine ins_mid (by rw[List.take_append_drop];exact hs) ?_ ?_
  ·intro y hy
   obtain⟨j,hj,rfl⟩:=List.getElem_of_mem hy;rw[List.length_drop]at hj;have:=s1 (k+j) (by omega) (by omega);rw[hget _ (by omega)]at this;rw[List.getElem_drop];exact .inl this
  ·intro y hy
   have hym:y∈L:=List.mem_of_mem_take hy
   have hno:ltB (key p) (key y)=false:=by
    obtain⟨j,hj,rfl⟩:=List.getElem_of_mem hy;rw[List.length_take]at hj;rw[List.getElem_take];rcases s2 with h0|h0
    ·omega
    ·rw[hget _ (by omega)]at h0
     by_cases hjk:j=k-1
     ·subst hjk;exact h0
     ·have hko:KO key L[j] L[k-1]:=List.pairwise_iff_getElem.1 hs j (k-1) (by omega) (by omega) (by omega)
      by_cases hlt:ltB (key p) (key L[j])=true
      ·rcases hko with h|⟨h,_⟩
       ·rw[ltB_trans hlt h]at h0;cases h0
       ·rw[h]at hlt;rw[hlt]at h0;cases h0
      ·simpa using hlt
   rcases ltB_total (key y) (key p)with h|h|h
   ·exact .inl h
   ·exact .inr ⟨h,hp y hym⟩
   ·rw[h]at hno;cases hno
 ·rw[List.append_assoc]
  have h1:(L.take k++([p]++L.drop k)).Perm (L.take k++(L.drop k++[p])):=List.Perm.append_left _ List.perm_append_comm;rw[←List.append_assoc (L.take k) (L.drop k),List.take_append_drop]at h1;exact h1
theorem fold_sorted (key:Nat→List UInt8) (L M:List Nat) (hs:M.Pairwise (KO key)) (hL:L.Pairwise (·< ·)) (hp:∀y,y∈M→∀x,x∈L→y<x):(L.foldl (stepN key true) M).Pairwise (KO key)∧(L.foldl (stepN key true) M).Perm (M++L):=by
 induction L generalizing M with
 |nil=>exact⟨hs,by simp⟩
 |cons p L ih=>
  obtain⟨a,b⟩:=stepN_sorted key M p hs (fun y hy=>hp y hy p (by simp));obtain⟨h1,h2⟩:=List.pairwise_cons.1 hL
  obtain⟨c,e⟩:=ih (stepN key true M p) a h2 (fun y hy x hx=>by
   have hy:=b.mem_iff.1 hy;rcases List.mem_append.1 hy with hy|hy
   ·exact hp y hy x (by simp[hx])
   ·simp at hy;subst hy;exact h1 x hx)
  refine⟨c,e.trans ?_⟩;have:=b.append_right L;rw[List.append_assoc]at this;exact this
def ordN (key:Nat→List UInt8) (so:Bool) (L:List Nat):List Nat:=L.foldl (stepN key so) []
theorem ordN_plain (key:Nat→List UInt8) (L:List Nat):ordN key false L=L:=by unfold ordN;rw[fold_plain];rfl
theorem ordN_one (key:Nat→List UInt8) (L Z:List Nat) (hL:L.Pairwise (·< ·)) (hZ:Z.Perm L) (hs:Z.Pairwise (KO key)):Z=ordN key true L:=by
 obtain⟨a,b⟩:=fold_sorted key L [] List.Pairwise.nil hL (fun y hy=>by simp at hy);exact sorted_one (KO.tr key) (KO.irrefl key) (hZ.trans b.symm) hs a
theorem ordN_perm (key:Nat→List UInt8) (so:Bool) (L:List Nat) (hL:L.Pairwise (·< ·)):(ordN key so L).Perm L:=by
 cases so with
 |false=>rw[ordN_plain]
 |true=>exact(fold_sorted key L [] List.Pairwise.nil hL (fun y hy=>by simp at hy)).2
theorem ord_parts (d:Nat) (indent:Int) (so:Bool) (its:List Im) (obj:Bool) (c q m:Nat) (h:partsG (sizeD d) obj c (its.drop q)=some m):
 (ordL (so&&obj) (partsW (sizeD d) (wrD indent so d) indent obj c (its.drop q))).map (·.2)=(ordN (keyAt its) (so&&obj) (placesL d its obj c q)).map (fun y=>(partT d indent so its obj y).2):=by
 rw[partsW_places d indent so its obj c q m h]
 have:=fold_map (keyAt its) (partT d indent so its obj) (so&&obj) (fun ht y=>by
  have:obj=true:=by cases obj<;>simp_all
  subst this;unfold partT
  rw[if_pos rfl]) (placesL d its obj c q) []
 unfold ordL;rw[show([]:List KT)=([]:List Nat).map (partT d indent so its obj)from rfl,this,List.map_map];rfl
theorem key_end (w:World) (o g ig cap:Nat) (its:List Im) (beh:List Nat) (h:OL w o g ig cap its beh its.length):
 Calls Tryz.prog 124 #[.pointer (some ⟨o,0,none⟩)] w (VDone w o g ig cap its beh its.length none):=by
 obtain⟨c0,c1,c2,cf⟩:=h.three;have HP:=hid (fun n=>OPost.same h ((Fr.refl (fun _=>False) w).drewN n));clear h;have hnn:decide ((its.length:Int)<(its.length:Int))=false:=decide_eq_false (by omega);generalize its.length=n at*;go_enter Tryz.func124,Tryz.ntmps124;go_wp2;go_quiet (fail);go_wp2;go_ret;exact⟨rfl,_,_,HP.out _⟩
theorem key_other (w:World) (o g ig cap:Nat) (its:List Im) (beh:List Nat) (nx:Nat) (x:Im) (h:OL w o g ig cap its beh nx) (hx:its[nx]? =some x) (_hl:its.length≤10000000) (hk:x.k≠4):
 Calls Tryz.prog 124 #[.pointer (some ⟨o,0,none⟩)] w (VDone w o g ig cap its beh nx none):=by
 obtain⟨⟨c0,c1,c2,cf⟩,⟨x0,x1,x2,x3⟩,-⟩:=h.all hx;have HP:=hid (fun n=>OPost.same h ((Fr.refl (fun _=>False) w).drewN n));have hnx:nx<its.length:=(List.getElem?_eq_some_iff.1 hx).1;have hnn:decide ((nx:Int)<(its.length:Int))=true:=decide_eq_true (by omega);have hk4:(x.k==4)=false:=beq_eq_false_iff_ne.2 hk;clear h hx hk;obtain⟨k,n,b,s⟩:=x;simp only at x0 x1 x2 x3 hk4;generalize its.length=L at*;go_enter Tryz.func124,Tryz.ntmps124;go_wp2;go_quiet (fail);go_wp2;go_ret;exact⟨rfl,_,_,HP.out _⟩
theorem key_text (w:World) (o g ig cap:Nat) (its:List Im) (beh:List Nat) (nx:Nat) (x:Im) (r:Option Nat) (bo:Bool) (h:OL w o g ig cap its beh nx) (hx:its[nx]? =some x) (_hl:its.length≤10000000) (hk:x.k=4)
 (HV:∀wx,OL wx o g ig cap its beh nx→Calls Tryz.prog 41 #[.pointer (some ⟨o,0,none⟩),.int .i64 0] wx (VDone wx o g ig cap its beh nx r)) (hr:bo=r.isSome):
 Calls Tryz.prog 124 #[.pointer (some ⟨o,0,none⟩)] w (VDone w o g ig cap its beh nx r):=by
 obtain⟨⟨c0,c1,c2,cf⟩,⟨x0,x1,x2,x3⟩,-⟩:=h.all hx;have HP:=hid (fun n=>OPost.same h ((Fr.refl (fun _=>False) w).drewN n));have hnx:nx<its.length:=(List.getElem?_eq_some_iff.1 hx).1;have hnn:decide ((nx:Int)<(its.length:Int))=true:=decide_eq_true (by omega)
 have HC:=hid (fun n=>(HV (w.drewN n) (h.fr ((Fr.refl (fun _=>False) w).drewN n))).mono (R':=fun e w'=>e=.returned (.bool bo)∧VDone w o g ig cap its beh nx r e w') (fun e w' hv=>by
  subst hr;cases r with
  |none=>obtain⟨h1,b2,n2,hp⟩:=hv;exact⟨h1,h1,b2,n2,(HP.out n).trans hp⟩
  |some m=>obtain⟨h1,b2,hp,hb⟩:=hv;exact⟨h1,h1,b2,(HP.out n).trans hp,hb⟩))
 clear h hx HV HP hr;obtain⟨k,n,b,s⟩:=x;simp only at x0 x1 x2 x3 hk;subst hk;generalize its.length=L at*;go_enter Tryz.func124,Tryz.ntmps124;go_wp2
 go_still_tail 26,Tryz.mixedR
 go_wp2_with (first|(go_at_call 41;refine Calls.mono (HC.out 1) ?_;rintro e w2 ⟨rfl,hv⟩;have HVD:=hid hv;clear hv)|fail)
 go_ret;exact HVD.out
theorem key_any (IH:ValOk 0):KeyOk:=by
 intro w o g ig cap its beh nx h hl hs hb;by_cases hnx:nx=its.length
 ·subst hnx
  rw[List.drop_eq_nil_of_le (Nat.le_refl _)];exact key_end w o g ig cap its beh h
 ·have hlt:nx<its.length:=by have:=h.nxle;omega
  have hx:its[nx]? =some its[nx]:=List.getElem?_eq_getElem hlt;have hd:its.drop nx=its[nx]::its.drop (nx+1):=List.drop_eq_getElem_cons hlt;obtain⟨x,hxx⟩:∃x,its[nx]=x:=⟨_,rfl⟩;rw[hxx]at hx hd;rw[hd];by_cases hk:x.k=4
  ·have hsz:szO (sizeD 0 (its.drop nx))=keyR (x::its.drop (nx+1)):=by
    rw[hd]
    show szO (if goodI x=true∧x.k<5 then 1 else 0)=(if x.k=4∧goodI x=true then some 1 else none)
    by_cases hg:goodI x=true
    ·rw[if_pos ⟨hg,by omega⟩,if_pos ⟨hk,hg⟩];rfl
    ·rw[if_neg (fun h=>hg h.1),if_neg (fun h=>hg h.2)];rfl
   refine key_text w o g ig cap its beh nx x (keyR (x::its.drop (nx+1))) _ h hx hl hk (fun wx hox=>?_) rfl;rw[←hsz];exact IH wx o g ig cap its beh nx hox hl hs hb (by omega)
  ·have:keyR (x::its.drop (nx+1))=none:=by
    show(if x.k=4∧goodI x=true then some 1 else none)=none
    rw[if_neg (fun h=>hk h.1)]
   rw[this];exact key_other w o g ig cap its beh nx x h hx hl hk
theorem in_ok (d:Nat) (IH:ValOk d) (KH:KeyOk):InOk d:=by
 intro w o g ig cap its beh nx N b k s h hl hs hb hd hk;rcases hk with rfl|rfl
 ·exact inside_arr d IH w o g ig cap its beh nx N b s h hl hs hb hd
 ·exact inside_obj d IH KH w o g ig cap its beh nx N b s h hl hs hb hd
theorem val_step (d:Nat) (HI:∀e,d=e+1→InOk e):ValOk d:=by
 intro w o g ig cap its beh nx h hl hs hb hd;by_cases hnx:nx=its.length
 ·subst hnx
  rw[List.drop_eq_nil_of_le (Nat.le_refl _)];have:szO (sizeD d [])=none:=by cases d<;>rfl
  rw[this];exact val_end d w o g ig cap its beh h
 ·have hlt:nx<its.length:=by have:=h.nxle;omega
  have hx:its[nx]? =some its[nx]:=List.getElem?_eq_getElem hlt;have hdr:its.drop nx=its[nx]::its.drop (nx+1):=List.drop_eq_getElem_cons hlt;obtain⟨x,hxx⟩:∃x,its[nx]=x:=⟨_,rfl⟩;rw[hxx]at hx hdr;have hmem:x∈its:=List.mem_of_getElem? hx;by_cases hg:goodI x=true
  ·by_cases hk:x.k<5
   ·have h0:sizeD 0 (its.drop nx)=1:=by rw[hdr,sizeD,if_pos ⟨hg,hk⟩]
    have h1:sizeD d (its.drop nx)=1:=by rw[←h0];exact sizeD_ups 0 d _ (by rw[h0];omega) (Nat.zero_le _)
    rw[h1];exact val_leaf d w o g ig cap its beh nx x h hx hl (hs x hmem) (hb x hmem) hg hk h0
   ·cases d with
    |zero=>
     have h0:sizeD 0 (its.drop nx)=0:=by rw[hdr,sizeD,if_neg (fun h=>hk h.2)]
     rw[h0];exact val_deep w o g ig cap its beh nx x h hx hl (hs x hmem) (hb x hmem) hg hk
    |succ e=>
     obtain⟨hk56,hn0⟩:=goodI_nest hg hk;have hsz:sizeD (e+1) (its.drop nx)=outN (partsG (sizeD e) (decide (x.k=6)) x.n.toNat (its.drop (nx+1))):=by rw[hdr,sizeD,if_pos hg,if_neg hk]
     obtain⟨k,n,b,s⟩:=x;simp only at hk56 hn0 hsz hk;obtain⟨N,rfl⟩:∃N:Nat,n=N:=⟨n.toNat,by omega⟩;rw[Int.toNat_natCast]at hsz;cases hp:partsG (sizeD e) (decide (k=6)) N (its.drop (nx+1))with
     |none=>
      rw[hp]at hsz;rw[hsz];exact val_nest_no e (HI e rfl) w o g ig cap its beh nx N b k s h hx hl hs hb hd hg hk56 hp
     |some m=>
      rw[hp]at hsz;rw[hsz];exact val_nest_yes e (HI e rfl) w o g ig cap its beh nx N b m k s h hx hl hs hb hd hg hk56 hp hsz
  ·have h0:sizeD d (its.drop nx)=0:=by
    rw[hdr];cases d with
    |zero=>rw[sizeD,if_neg (fun h=>hg h.1)]
    |succ e=>rw[sizeD,if_neg hg]
   rw[h0];exact val_bad d w o g ig cap its beh nx x h hx hl (hs x hmem) (hb x hmem) (by simpa using hg)
theorem val_all (d:Nat):ValOk d:=by
 have h0:ValOk 0:=val_step 0 (fun e he=>by omega);have hk:=key_any h0
 induction d with
 |zero=>exact h0
 |succ d ih=>exact val_step (d+1) (fun e he=>by
   have:d=e:=by omega
   subst this
   exact in_ok d ih hk)
theorem Tryz.info3B:(Tryz.prog.info? 3).map (fun i=>(i.zero,i.size,i.bytes))=some (some (.int .i64 0),1,8):=by kernel_rfl
theorem row_made3 (w:World) (n:Nat) (hn:n≤10000000):(w.alloc (.cells (madeCells #[Value.int .i64 0] n) 3)).ownsRow 0 3 1 (.slice (some ⟨w.heap.size,0,none⟩) n n) n ((List.replicate n 0).map encN):=by
 have:=World.ownsRow_lit w (e:=3) (size:=1) (base:=0) (madeCells #[Value.int .i64 0] n) n (Nat.zero_le _) (by unfold maxLen;omega) (by rw[size_madeCells];omega);rw[toList_madeCells_one]at this;rw[List.map_replicate];exact this
theorem tabs_two {w:World} (h:Tabs w):2≤w.heap.size:=lt_of_cell (h.2 0 (by omega)).1
theorem OL.first {w:World} {ig cap:Nat} {its:List Im} (hI:ItAt w (.slice (some ⟨ig,0,none⟩) its.length cap) its) (hT:Tabs w) (hn:its.length≤10000000) (o1:Obj):
 OL (((w.alloc o1).alloc (.cells (madeCells #[Value.int .i64 0] its.length) 3)).alloc (.cells #[.slice (some ⟨ig,0,none⟩) its.length cap,.slice (some ⟨w.heap.size+1,0,none⟩) its.length its.length,.int .i64 0] 61)) (w.heap.size+2) (w.heap.size+1) ig cap its (List.replicate its.length 0) 0:=by
 have hF:=(((Fr.refl (fun _=>False) w).alloc o1).alloc (.cells (madeCells #[Value.int .i64 0] its.length) 3)).alloc (.cells #[.slice (some ⟨ig,0,none⟩) its.length cap,.slice (some ⟨w.heap.size+1,0,none⟩) its.length its.length,.int .i64 0] 61);have hlt:=lt_of_row hI;have h2:=tabs_two hT;have s1:(w.alloc o1).heap.size=w.heap.size+1:=by simp
 have s2:((w.alloc o1).alloc (.cells (madeCells #[Value.int .i64 0] its.length) 3)).heap.size=w.heap.size+2:=by simp
 have hb:=heap_alloc_new ((w.alloc o1).alloc (.cells (madeCells #[Value.int .i64 0] its.length) 3)) (.cells #[.slice (some ⟨ig,0,none⟩) its.length cap,.slice (some ⟨w.heap.size+1,0,none⟩) its.length its.length,.int .i64 0] 61);rw[s2]at hb;have hr:=row_made3 (w.alloc o1) its.length hn;rw[s1]at hr;exact⟨hb,rowFr hr ((Fr.refl (fun _=>False) _).alloc _) (fun _ _=>id),hI.fr hF (fun _ _=>id),by omega,by omega,by omega,hT.fr hF id id,by omega,by omega,Nat.zero_le _⟩
structure OutOk (w w':World) (ig cap:Nat) (its:List Im) (v:Value) (g:Nat) (beh:List Nat):Prop where
 val:v=.agg #[.slice (some ⟨ig,0,none⟩) its.length cap,.slice (some ⟨g,0,none⟩) its.length its.length,.int .i64 (its.length:Int)]
 row:w'.ownsRow 0 3 1 (.slice (some ⟨g,0,none⟩) its.length its.length) its.length (beh.map encN)
 beh:BhOk beh its 0 its.length
 new:w.heap.size≤g
theorem keep_res {w w2:World} {n:Nat} {v0 v1 v2:Value} {oc:Obj} (hF:Fr (fun i=>i=w.heap.size+2∨i=w.heap.size+1) (((w.alloc (.cells #[v0,v1,v2] 61)).alloc (.cells (madeCells #[Value.int .i64 0] n) 3)).alloc oc) w2):
 w2.cell? ⟨w.heap.size,0,none⟩=some v0∧w2.cell? ⟨w.heap.size,1,none⟩=some v1∧w2.cell? ⟨w.heap.size,2,none⟩=some v2∧(∀j,w2.frozen? ⟨w.heap.size,j,none⟩=false)∧w2.heap[w.heap.size]? =some (.cells #[v0,v1,v2] 61 (0,0)):=by
 have h0:=heap_alloc_new w (.cells #[v0,v1,v2] 61);have h1:=(((Fr.refl (fun _=>False) (w.alloc (.cells #[v0,v1,v2] 61))).alloc (.cells (madeCells #[Value.int .i64 0] n) 3)).alloc oc).heap h0 id;have k:=hF.heap h1 (by omega);exact⟨blk_cell k rfl,blk_cell k rfl,blk_cell k rfl,fun _=>blk_free k,k⟩
theorem res_load {w2:World} {g:Nat} {v0 v1 v2:Value} (h:w2.heap[g]? =some (.cells #[v0,v1,v2] 61 (0,0))) (a b c:Value):
 (loadVar 61 ⟨g,0,none⟩).run Tryz.prog (((w2.setCell ⟨g,0,none⟩ a).setCell ⟨g,1,none⟩ b).setCell ⟨g,2,none⟩ c)=.ok (.agg #[a,b,c]) (((w2.setCell ⟨g,0,none⟩ a).setCell ⟨g,1,none⟩ b).setCell ⟨g,2,none⟩ c):=by
 have h1:=heap_setCell_same w2 g 0 _ 61 a h;have h2:=heap_setCell_same _ g 1 _ 61 b h1;have h3:=heap_setCell_same _ g 2 _ 61 c h2;exact run_loadVar_row _ g 61 61 #[a,b,c] (0,0) _ h3 Tryz.underlying61 rfl (by kernel_rfl)
theorem three_set {w w2:World} (hF:Fr (fun _=>False) w w2) (a b c:Value):Fr (fun _=>False) w (((w2.setCell ⟨w.heap.size,0,none⟩ a).setCell ⟨w.heap.size,1,none⟩ b).setCell ⟨w.heap.size,2,none⟩ c):=
 ((hF.setCell (p:=⟨w.heap.size,0,none⟩) (.inr (Nat.le_refl _)) a).setCell (p:=⟨w.heap.size,1,none⟩) (.inr (Nat.le_refl _)) b).setCell (p:=⟨w.heap.size,2,none⟩) (.inr (Nat.le_refl _)) c
theorem three_fr (w:World) (o1 o2 o3:Obj):Fr (fun _=>False) w (((w.alloc o1).alloc o2).alloc o3):=(((Fr.refl _ w).alloc _).alloc _).alloc _
theorem outline_no (w:World) (ig cap:Nat) (its:List Im) (hI:ItAt w (.slice (some ⟨ig,0,none⟩) its.length cap) its) (hT:Tabs w) (hl:its.length≤10000000) (hs:∀x,x∈its→x.s.length≤100000000) (hb:Bok its) (hz:sizeD 1000 its=0):
 Calls Tryz.prog 25 #[.slice (some ⟨ig,0,none⟩) its.length cap] w fun e w'=>Fr (fun _=>False) w w'∧∃(k m:Nat),e=.returned (.tuple #[.agg #[.slice (some ⟨ig,0,none⟩) its.length cap,.slice (some ⟨k,0,none⟩) its.length its.length,.int .i64 (m:Int)],.bool false]):=by
 have hmk:=run_make_row' (P:=Tryz.prog) 59 3 (.int .i64 0) 8 Tryz.underlying59 Tryz.info3B rfl .i64 .i64 its.length (by omega) (by omega);have HOL:=hid (fun o1=>OL.first hI hT hl o1);have HV:=hid (fun (wx:World) (hx:OL wx (w.heap.size+2) (w.heap.size+1) ig cap its (List.replicate its.length 0) 0)=>val_all 1000 wx _ _ ig cap its _ 0 hx hl hs hb (Nat.le_refl _));rw[List.drop_zero,szO_none hz]at HV;clear hI hT hs hb hz;have HTH:=hid (fun w2 b2 n2 (hx:OL w2 (w.heap.size+2) (w.heap.size+1) ig cap its b2 n2)=>hx.three);obtain⟨n,hn⟩:∃n,its.length=n:=⟨_,rfl⟩;rw[hn]at hmk hl HOL HV HTH ⊢;go_enter Tryz.func25,Tryz.ntmps25
 go_wp2_with fail
 refine Calls.mono (HV.out _ (HOL.out _)) ?_;rintro e w2 ⟨rfl,b2,n2,hp⟩;obtain⟨r0,r1,r2,rf,rh⟩:=keep_res hp.fr;have HLD:=hid (fun a b c=>res_load rh a b c);clear rh;obtain⟨c0,c1,c2,cf⟩:=HTH.out _ _ _ hp.ol;have HF:=hid ((three_fr w _ _ _).trans' hp.fr (by rintro i (rfl|rfl)<;>exact .inr (by omega)));clear hp HTH;go_wp2
 (try simp only[Exit.inBlock,Exit.then])
 refine bodyPost_ret (v:=.tuple #[.agg #[.slice (some ⟨ig,0,none⟩) n cap,.slice (some ⟨w.heap.size+1,0,none⟩) n n,.int .i64 (n2:Int)],.bool false]) ?_ rfl ⟨three_set HF.out _ _ _,_,_,rfl⟩;rw[results_cell_tmp rfl];simp[asAddr,Result.andThen,HLD.out]
theorem outline_some (w:World) (ig cap:Nat) (its:List Im) (hI:ItAt w (.slice (some ⟨ig,0,none⟩) its.length cap) its) (hT:Tabs w) (hl:its.length≤10000000) (hs:∀x,x∈its→x.s.length≤100000000) (hb:Bok its) (hz:sizeD 1000 its≠0):
 Calls Tryz.prog 25 #[.slice (some ⟨ig,0,none⟩) its.length cap] w fun e w'=>Fr (fun _=>False) w w'∧∃v,e=.returned (.tuple #[v,.bool ((sizeD 1000 its:Int)==(its.length:Int))])∧(∃(k m:Nat),v=.agg #[.slice (some ⟨ig,0,none⟩) its.length cap,.slice (some ⟨k,0,none⟩) its.length its.length,.int .i64 (m:Int)])∧(sizeD 1000 its=its.length→∃g beh,OutOk w w' ig cap its v g beh):=by
 have hmk:=run_make_row' (P:=Tryz.prog) 59 3 (.int .i64 0) 8 Tryz.underlying59 Tryz.info3B rfl .i64 .i64 its.length (by omega) (by omega);have HOL:=hid (fun o1=>OL.first hI hT hl o1);have HV:=hid (fun (wx:World) (hx:OL wx (w.heap.size+2) (w.heap.size+1) ig cap its (List.replicate its.length 0) 0)=>val_all 1000 wx _ _ ig cap its _ 0 hx hl hs hb (Nat.le_refl _));rw[List.drop_zero,szO_some hz]at HV;clear hI hT hs hb hz;obtain⟨m,hm⟩:∃m,sizeD 1000 its=m:=⟨_,rfl⟩;rw[hm]at HV ⊢;have HTH:=hid (fun w2 b2 n2 (hx:OL w2 (w.heap.size+2) (w.heap.size+1) ig cap its b2 n2)=>hx.three)
 have HEND:=hid (fun (w2:World) (b2:List Nat) (hx:OL w2 (w.heap.size+2) (w.heap.size+1) ig cap its b2 m) (hbk:BhOk b2 its 0 m) (a b c:Value)=>(show m=its.length→∃g beh,OutOk w (((w2.setCell ⟨w.heap.size,0,none⟩ a).setCell ⟨w.heap.size,1,none⟩ b).setCell ⟨w.heap.size,2,none⟩ c) ig cap its (.agg #[.slice (some ⟨ig,0,none⟩) its.length cap,.slice (some ⟨w.heap.size+1,0,none⟩) its.length its.length,.int .i64 (m:Int)]) g beh from by
  rintro rfl
  have hF:Fr (fun i=>i=w.heap.size) w2 (((w2.setCell ⟨w.heap.size,0,none⟩ a).setCell ⟨w.heap.size,1,none⟩ b).setCell ⟨w.heap.size,2,none⟩ c):=
   (((Fr.refl (fun i=>i=w.heap.size) w2).setCell (p:=⟨w.heap.size,0,none⟩) (.inl rfl) a).setCell (p:=⟨w.heap.size,1,none⟩) (.inl rfl) b).setCell (p:=⟨w.heap.size,2,none⟩) (.inl rfl) c
  exact⟨w.heap.size+1,b2,rfl,rowFr hx.row hF (by rintro i hi rfl;simp[Value.ownBlock]at hi),hbk,by omega⟩))
 have HN:=hid hm;clear hm;obtain⟨n,hn⟩:∃n,its.length=n:=⟨_,rfl⟩;rw[hn]at hmk hl HOL HV HTH HEND ⊢;go_enter Tryz.func25,Tryz.ntmps25
 go_wp2_with fail
 refine Calls.mono (HV.out _ (HOL.out _)) ?_;rintro e w2 ⟨rfl,b2,hp,hbk⟩;rw[Nat.zero_add]at hp hbk;obtain⟨r0,r1,r2,rf,rh⟩:=keep_res hp.fr;have HLD:=hid (fun a b c=>res_load rh a b c);clear rh;obtain⟨c0,c1,c2,cf⟩:=HTH.out _ _ _ hp.ol;have HF:=hid ((three_fr w _ _ _).trans' hp.fr (by rintro i (rfl|rfl)<;>exact .inr (by omega)));have HE2:=hid (fun a b c=>HEND.out w2 b2 hp.ol hbk a b c);clear hp hbk HTH HEND;go_wp2
 all_goals
  (try simp only[Exit.inBlock,Exit.then])
  refine bodyPost_ret (v:=.tuple #[.agg #[.slice (some ⟨ig,0,none⟩) n cap,.slice (some ⟨w.heap.size+1,0,none⟩) n n,.int .i64 (m:Int)],.bool ((m:Int)==(n:Int))]) ?_ rfl ⟨three_set HF.out _ _ _,_,rfl,⟨_,_,rfl⟩,HE2.out _ _ _⟩;rw[results_cell_tmp rfl];simp[asAddr,Result.andThen,HLD.out]
shelf_lay Lays.n105 Nm 105 at Tryz as Tryz.laysRepeat
theorem repExtra:Builder.Extra Tryz.prog Tryz.laysRepeat_ren where
 sizeBuilder:=by kernel_rfl
 liesBuilder:=by kernel_rfl
 t5:=Tryz.underlying5
 a5:=Tryz.isAgg5
 z5:=Tryz.sizeOf5
 v5:=Tryz.zeroValue5
 infoByte:=by kernel_rfl
 cellsByte:=by kernel_rfl
 sizeByte:=by kernel_rfl
 neB5:=by decide
theorem repeat_lib (s:ByteArray) (c:Nat) (w:World) (hc:c≤9223372036854775807) (hlen:s.size*c≤140737488355328):
 Calls Tryz.prog 110 #[.string s,.int .i64 c] w fun e w'=>e=.returned (.string ⟨(Lib.repeatL s.data.toList c).toArray⟩)∧Below w.heap.size w w':=Any.strings_Repeat Tryz.laysRepeat repExtra s c w hc hlen
#print axioms repeat_lib
theorem rep_one (c:Nat):Lib.repeatL [(32:UInt8)] c=List.replicate c 32:=by
 induction c with
 |zero=>rfl
 |succ c ih=>rw[List.replicate_succ,←ih];rfl
theorem spaces_any (c:Nat) (w:World) (hc:c≤1000000):
 Calls Tryz.prog 110 #[.string ⟨#[32]⟩,.int .i64 c] w fun e w'=>e=.returned (.string (ofL (List.replicate c 32)))∧Fr (fun _=>False) w w':=by
 refine(repeat_lib ⟨#[32]⟩ c w (by omega) (by show 1*c≤_;omega)).mono ?_;rintro e w' ⟨rfl,hb⟩;refine⟨?_,.ofBelow hb⟩;rw[←rep_one];rfl
theorem WAt.fr {B:Nat} {w w':World} {vi vb:Value} {nx ind:Int} {so:Bool} {op:Nat} {ad vo:Value} {bs:List UInt8} (h:WAt B w vi vb nx ind so op ad vo bs) (hf:Fr (fun _=>False) w w'):WAt B w' vi vb nx ind so op ad vo bs:=
 ⟨hf.heap h.blk id,h.adr,rowFr h.row hf (fun _ _=>id)⟩
theorem WAt.two {B:Nat} {w:World} {vi vb:Value} {nx ind:Int} {so:Bool} {op:Nat} {ad vo:Value} {bs:List UInt8} (h:WAt B w vi vb nx ind so op ad vo bs):w.cell? ⟨B,3,none⟩=some (.int .i64 ind)∧w.cell? ⟨B,5,none⟩=some (.int .i64 (op:Int)):=
 ⟨blk_cell h.blk rfl,blk_cell h.blk rfl⟩
theorem newLine_none (B:Nat) (w:World) (vi vb:Value) (nx:Int) (so:Bool) (op:Nat) (ad vo:Value) (bs:List UInt8) (h:WAt B w vi vb nx (-1) so op ad vo bs):
 Calls Tryz.prog 74 #[.pointer (some ⟨B,0,none⟩)] w fun e w'=>e=.returned (.tuple #[])∧w'=w:=by
 obtain⟨c3,c5⟩:=h.two;clear h;go_enter Tryz.func74,Tryz.ntmps74;go_wp2
 go_returns
 exact⟨rfl,rfl⟩
theorem newLine_some (B:Nat) (w:World) (vi vb:Value) (nx:Int) (n:Nat) (so:Bool) (op:Nat) (ad vo:Value) (bs:List UInt8) (h:WAt B w vi vb nx (n:Int) so op ad vo bs) (hn:n≤16) (hop:op≤1001) (hl:bs.length≤99999970000):
 Calls Tryz.prog 74 #[.pointer (some ⟨B,0,none⟩)] w fun e w'=>e=.returned (.tuple #[])∧WPost B w vi vb nx (n:Int) so op vo (bs++10::List.replicate (n*op) 32) w':=by
 obtain⟨c3,c5⟩:=h.two;have H1:=hid (show Calls Tryz.prog 44 #[.pointer (some ⟨B,6,none⟩),.int .u8 10] w _ from writeByte_any B w vi vb nx n so op ad vo bs 10 h (by omega));have hnop:n*op≤16*1001:=Nat.mul_le_mul hn hop
 have hmul:IntKind.i64.wrap ((n:Int)*(op:Int))=((n*op:Nat):Int):=by
  have e:(n:Int)*(op:Int)=((n*op:Nat):Int):=by simp
  rw[e];exact IntWalk.i64_in _ (by omega)
 have HR:=hid (fun wx=>spaces_any (n*op) wx (by omega));have H2:=hid (fun (wx:World) (vo':Value) (hx:WAt B wx vi vb nx (n:Int) so op (.pointer (some ⟨B,6,none⟩)) vo' (bs++[10]))=>writeString_any B wx vi vb nx n so op _ vo' (bs++[10]) (List.replicate (n*op) 32) hx (by simp only[List.length_append,List.length_singleton,List.length_replicate];omega));have hn1:((n:Int)== -1)=false:=beq_eq_false_iff_ne.2 (by omega);clear h;generalize n*op=np at*;go_enter Tryz.func74,Tryz.ntmps74
 go_wp2_with fail
 refine Calls.mono H1.out ?_;rintro e w1 ⟨rfl,vo1,hW1,hF1,hN1⟩;obtain⟨d3,d5⟩:=hW1.two;have HW1:=hid hW1;have K1:=hid (And.intro hF1 hN1);clear hW1 hF1 hN1 c3 c5;go_wp2
 go_region_held3 (fun w'=>w'.cell? ⟨B,3,none⟩=some (.int .i64 (n:Int))∧w'.cell? ⟨B,5,none⟩=some (.int .i64 (op:Int))) (first|exact⟨d3,d5⟩|exact⟨m3,m5⟩|go_keep) (first|(go_at_call 110;refine Calls.mono (HR.out _) ?_;rintro x w2 ⟨rfl,hF⟩;have hW2:=HW1.out.fr (((Fr.refl (fun _=>False) w1).drewN 1).trans hF);obtain⟨m3,m5⟩:=hW2.two;have HW2:=hid hW2;have HF2:=hid (((Fr.refl (fun _=>False) w1).drewN 1).trans hF);clear hW2 hF)|(go_at_call 42;refine Calls.mono (H2.out _ vo1 HW2.out) ?_;rintro x w3 ⟨rfl,vo3,hW3,hF3,hN3⟩;obtain⟨m3,m5⟩:=hW3.two;have HP3:=hid (show WPost B w2 vi vb nx (n:Int) so op vo1 (bs++[10]++List.replicate np 32) w3 from⟨vo3,hW3,hF3,hN3⟩);clear hW3 hF3 hN3))
 go_wp2;go_end0;refine⟨rfl,?_⟩;have:=WPost.trans (K1.out.1.trans (HF2.out.mono (fun _=>False.elim))) K1.out.2 HP3.out;rw[List.append_assoc]at this;exact this
theorem newLine_any (B:Nat) (w:World) (vi vb:Value) (nx ind:Int) (so:Bool) (op:Nat) (vo:Value) (bs:List UInt8) (h:WAt B w vi vb nx ind so op (.pointer (some ⟨B,6,none⟩)) vo bs) (h1: -1≤ind) (h2:ind≤16) (hop:op≤1001) (hl:bs.length≤99999970000):
 Calls Tryz.prog 74 #[.pointer (some ⟨B,0,none⟩)] w fun e w'=>e=.returned (.tuple #[])∧WPost B w vi vb nx ind so op vo (bs++lineL ind op) w':=by
 by_cases hi:ind= -1
 ·subst hi
  refine(newLine_none B w vi vb nx so op _ vo bs h).mono ?_;rintro e w' ⟨rfl,rfl⟩;refine⟨rfl,vo,?_,Fr.refl _ _,fun _ hg=>.inl hg⟩;have:bs++lineL (-1) op=bs:=by unfold lineL;simp
  rw[this];exact h
 ·obtain⟨n,rfl⟩:∃n:Nat,ind=n:=⟨ind.toNat,by omega⟩
  have:lineL (n:Int) op=10::List.replicate (n*op) 32:=by unfold lineL;rw[if_neg (by omega),Int.toNat_natCast]
  rw[this];exact newLine_some B w vi vb nx n so op _ vo bs h (by omega) hop hl
end Go.Proofs.YtmkkibaacclhnaaGreatDoor
