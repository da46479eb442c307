/-
  A step of the walk, the part named Nab. No theorem of the row.
-/
import Derived.Test.YtmkkibaacclhnaaGreatDoorProg
import Derived.WalkKit
import Derived.WalkSpells
import Derived.WalkLawsBesides
import Derived.ArgAppend
import Derived.Deep.QuietTactic
import Derived.BigQuiet
import Derived.RegionTactic
namespace Go.Proofs.YtmkkibaacclhnaaGreatDoor
open Go.RowKit
set_option maxHeartbeats 16000000
def V (n:Nat):Nat:=if n/4503599627370496=0 then n else(4503599627370496+n % 4503599627370496)*2^(n/4503599627370496-1)
theorem V_em (E m:Nat) (h:(E=0∧m≤9007199254740992)∨(4503599627370496≤m∧m≤9007199254740992)):V (E*4503599627370496+m)=m*2^E:=by
 unfold V;by_cases h1:m<4503599627370496
 ·obtain⟨rfl,_⟩:E=0∧m≤9007199254740992:=by omega
  rw[if_pos (by omega)];simp
 ·by_cases h2:m=9007199254740992
  ·subst h2
   have e1:(E*4503599627370496+9007199254740992)/4503599627370496=E+2:=by omega
   have e2:(E*4503599627370496+9007199254740992) % 4503599627370496=0:=by omega
   rw[e1,e2,if_neg (by omega),show E+2-1=E+1 from by omega,Nat.pow_succ];omega
  ·have e1:(E*4503599627370496+m)/4503599627370496=E+1:=by omega
   have e2:(E*4503599627370496+m) % 4503599627370496=m-4503599627370496:=by omega
   rw[e1,e2,if_neg (by omega),show E+1-1=E from by omega,show 4503599627370496+(m-4503599627370496)=m from by omega]
theorem V_rep (n:Nat):∃E m,n=E*4503599627370496+m∧V n=m*2^E∧V (n+1)=(m+1)*2^E∧((E=0∧m<9007199254740992)∨(4503599627370496≤m∧m<9007199254740992)):=by
 by_cases h:n/4503599627370496=0
 ·refine⟨0,n,by omega,?_,?_,.inl ⟨rfl,by omega⟩⟩
  ·have:=V_em 0 n (.inl ⟨rfl,by omega⟩);simpa using this
  ·have:=V_em 0 (n+1) (.inl ⟨rfl,by omega⟩);simpa using this
 ·have e:n=(n/4503599627370496-1)*4503599627370496+(4503599627370496+n % 4503599627370496):=by omega
  refine⟨n/4503599627370496-1,4503599627370496+n % 4503599627370496,e,?_,?_,.inr ⟨by omega,by omega⟩⟩
  ·have:=V_em (n/4503599627370496-1) (4503599627370496+n % 4503599627370496) (.inr ⟨by omega,by omega⟩)
   rwa[←e]at this
  ·have:=V_em (n/4503599627370496-1) (4503599627370496+n % 4503599627370496+1) (.inr ⟨by omega,by omega⟩)
   rw[←Nat.add_assoc,←e]at this;exact this
theorem V_succ (n:Nat):V n<V (n+1):=by
 obtain⟨E,m,_,h1,h2,_⟩:=V_rep n;rw[h1,h2,Nat.add_mul];have:=Nat.two_pow_pos E;omega
theorem V_mono {a b:Nat} (h:a≤b):V a≤V b:=by
 induction b with
 |zero=>obtain rfl:a=0:=by omega
        exact Nat.le_refl _
 |succ b ih=>
  by_cases e:a=b+1
  ·rw[e];exact Nat.le_refl _
  ·exact Nat.le_trans (ih (by omega)) (Nat.le_of_lt (V_succ b))
theorem V_lt {a b:Nat} (h:a<b):V a<V b:=Nat.lt_of_lt_of_le (V_succ a) (V_mono h)
def mid (r:Nat):Nat:=V r+V (r+1)
theorem mid_lt {a b:Nat} (h:a<b):mid a<mid b:=by
 have h1:=V_lt h;have h2:=V_lt (show a+1<b+1 by omega);unfold mid;omega
def Rnd (X Y r:Nat):Prop:=
 (r=0∨mid (r-1)*Y<2*X∨(mid (r-1)*Y=2*X∧r % 2=0))∧(2*X<mid r*Y∨(2*X=mid r*Y∧r % 2=0))
theorem Rnd.le {X Y r s:Nat} (hY:0<Y) (h1:Rnd X Y r) (h2:Rnd X Y s):s≤r:=by
 rcases Nat.lt_or_ge r s with hlt|h
 ·exfalso
  have a:=h1.2;have b:=h2.1
  have hm:mid r≤mid (s-1):=by
   by_cases e:r=s-1
   ·rw[←e];exact Nat.le_refl _
   ·exact Nat.le_of_lt (mid_lt (by omega))
  have hmm:mid r*Y≤mid (s-1)*Y:=Nat.mul_le_mul_right _ hm;have he:2*X=mid r*Y∧r % 2=0:=by omega
  have he2:mid (s-1)*Y=2*X∧s % 2=0:=by omega
  have e3:mid r=mid (s-1):=Nat.eq_of_mul_eq_mul_right hY (by omega)
  have e4:r=s-1:=by
   by_cases e:r=s-1
   ·exact e
   ·have:=mid_lt (show r<s-1 by omega);omega
  omega
 ·exact h
theorem Rnd.uniq {X Y r s:Nat} (hY:0<Y) (h1:Rnd X Y r) (h2:Rnd X Y s):r=s:=Nat.le_antisymm (h2.le hY h1) (h1.le hY h2)
theorem rnd_of {X Y D R m E r:Nat} (hY:0<Y) (hD:0<D) (hR:R<D) (hm:(E=0∧m<9007199254740992)∨(4503599627370496≤m∧m<9007199254740992))
 (hX:X*D=(m*D+R)*2^E*Y) (hr:r=E*4503599627370496+m+(if D<2*R∨(2*R=D∧m % 2=1)then 1 else 0)):Rnd X Y r:=by
 have hp:=Nat.two_pow_pos E;have v0:V (E*4503599627370496+m)=m*2^E:=V_em E m (by omega);have v1:V (E*4503599627370496+m+1)=(m+1)*2^E:=by rw[Nat.add_assoc];exact V_em E (m+1) (by omega)
 obtain⟨r0,hr0⟩:∃r0,r0=E*4503599627370496+m:=⟨_,rfl⟩;rw[←hr0]at v0 v1 hr;have par:r0 % 2=m % 2:=by omega
 have hZ:0<2^E*Y:=Nat.mul_pos hp hY
 --all against Z=2^E Y
 have hX':X*D=(m*D+R)*(2^E*Y):=by rw[hX,Nat.mul_assoc]
 obtain⟨Z,hZe⟩:∃Z,2^E*Y=Z:=⟨_,rfl⟩;rw[hZe]at hX' hZ
 have hlo:m*Z≤X:=by
  refine Nat.le_of_mul_le_mul_right ?_ hD;rw[hX',Nat.mul_right_comm];exact Nat.mul_le_mul_right _ (by omega)
 have hhi:X<(m+1)*Z:=by
  refine Nat.lt_of_mul_lt_mul_right (a:=D) ?_;rw[hX',Nat.mul_right_comm];exact Nat.mul_lt_mul_of_pos_right (by rw[Nat.add_mul];omega) hZ
 have hmid:mid r0*Y=(2*m+1)*Z:=by
  unfold mid;rw[v0,v1,←Nat.add_mul,Nat.mul_assoc,hZe];congr 1;omega
 --2X against the middle:2R against D
 have key:∀a b:Nat,(a<b↔(2*m*D+a)*Z<(2*m*D+b)*Z):=fun a b=>
  ⟨fun h=>Nat.mul_lt_mul_of_pos_right (by omega) hZ,fun h=>by have:=Nat.lt_of_mul_lt_mul_right h;omega⟩
 have e1:2*X*D=(2*m*D+2*R)*Z:=by rw[Nat.mul_assoc,hX',←Nat.mul_assoc,Nat.mul_add,←Nat.mul_assoc]
 have e2:mid r0*Y*D=(2*m*D+D)*Z:=by rw[hmid,Nat.mul_right_comm,Nat.add_mul,Nat.one_mul]
 have c1:2*X<mid r0*Y↔2*R<D:=by
  rw[key (2*R) D,←e1,←e2];exact⟨fun h=>Nat.mul_lt_mul_of_pos_right h hD,fun h=>Nat.lt_of_mul_lt_mul_right h⟩
 have c2:mid r0*Y<2*X↔D<2*R:=by
  rw[key D (2*R),←e1,←e2];exact⟨fun h=>Nat.mul_lt_mul_of_pos_right h hD,fun h=>Nat.lt_of_mul_lt_mul_right h⟩
 --the neighbours' middles
 have low:r0=0∨mid (r0-1)*Y<2*X:=by
  by_cases h0:r0=0
  ·exact .inl h0
  ·right
   have h1:V (r0-1)<V r0:=V_lt (by omega);have h2:mid (r0-1)<2*(m*2^E):=by unfold mid;rw[show r0-1+1=r0 from by omega];omega
   have h3:mid (r0-1)*Y<2*(m*2^E)*Y:=Nat.mul_lt_mul_of_pos_right h2 hY;rw[Nat.mul_assoc,Nat.mul_assoc,hZe]at h3;omega
 have high:2*X<mid (r0+1)*Y:=by
  have h1:V (r0+1)<V (r0+1+1):=V_succ _;have h2:2*((m+1)*2^E)<mid (r0+1):=by unfold mid;omega
  have h3:2*((m+1)*2^E)*Y<mid (r0+1)*Y:=Nat.mul_lt_mul_of_pos_right h2 hY;rw[Nat.mul_assoc,Nat.mul_assoc,hZe]at h3;omega
 by_cases hc:D<2*R∨(2*R=D∧m % 2=1)
 ·rw[if_pos hc]at hr
  subst hr;refine⟨.inr ?_,.inl high⟩;rw[Nat.add_sub_cancel];rcases hc with hc|⟨hc,ho⟩
  ·exact .inl (c2.2 hc)
  ·exact .inr ⟨by omega,by omega⟩
 ·rw[if_neg hc,Nat.add_zero]at hr
  subst hr;refine⟨?_,?_⟩
  ·rcases low with h|h
   ·exact .inl h
   ·exact .inr (.inl h)
  ·by_cases h:2*R<D
   ·exact .inl (c1.2 h)
   ·exact .inr ⟨by omega,by omega⟩
structure Fr (S:Nat→Prop) (w w':World):Prop where
 os:w'.os=w.os
 tape:w'.tape=w.tape
 output:w'.output=w.output
 size:w.heap.size≤w'.heap.size
 block:∀k,k<w.heap.size→¬S k→w'.heap[k]? =w.heap[k]?
theorem Fr.refl (S:Nat→Prop) (w:World):Fr S w w:=⟨rfl,rfl,rfl,Nat.le_refl _,fun _ _ _=>rfl⟩
theorem Fr.trans {S:Nat→Prop} {a b c:World} (h:Fr S a b) (k:Fr S b c):Fr S a c:=
 ⟨k.os.trans h.os,k.tape.trans h.tape,k.output.trans h.output,Nat.le_trans h.size k.size,fun i hi hs=>(k.block i (Nat.lt_of_lt_of_le hi h.size) hs).trans (h.block i hi hs)⟩
theorem Fr.trans' {S T:Nat→Prop} {a b c:World} (h:Fr S a b) (k:Fr T b c) (hT:∀i,T i→S i∨a.heap.size≤i):Fr S a c:=
 ⟨k.os.trans h.os,k.tape.trans h.tape,k.output.trans h.output,Nat.le_trans h.size k.size,fun i hi hs=>
  (k.block i (Nat.lt_of_lt_of_le hi h.size) (fun ht=>by rcases hT i ht with h1|h1;exact hs h1;omega)).trans (h.block i hi hs)⟩
theorem Fr.mono {S T:Nat→Prop} {a b:World} (h:Fr S a b) (hS:∀i,S i→T i):Fr T a b:=
 ⟨h.os,h.tape,h.output,h.size,fun i hi ht=>h.block i hi (fun hs=>ht (hS i hs))⟩
theorem Fr.drew {S:Nat→Prop} {a w:World} (h:Fr S a w):Fr S a w.drew:=⟨h.os,h.tape,h.output,h.size,h.block⟩
theorem Fr.drewN {S:Nat→Prop} {a w:World} (h:Fr S a w) (n:Nat):Fr S a (w.drewN n):=⟨h.os,h.tape,h.output,h.size,h.block⟩
theorem Fr.alloc {S:Nat→Prop} {a w:World} (h:Fr S a w) (o:Obj):Fr S a (w.alloc o):=
 ⟨h.os,h.tape,h.output,by have:=h.size;simp;omega,fun i hi hs=>(Below.heap_alloc w o i (Nat.lt_of_lt_of_le hi h.size)).trans (h.block i hi hs)⟩
theorem Fr.setCell {S:Nat→Prop} {a w:World} (h:Fr S a w) {p:Addr} (hp:S p.block∨a.heap.size≤p.block) (u:Value):Fr S a (w.setCell p u):=
 ⟨h.os,h.tape,h.output,by have:=h.size;simpa[World.setCell]using this,fun i hi hs=>
  (Below.heap_setCell w p u i (by rintro rfl;rcases hp with h1|h1;exact hs h1;omega)).trans (h.block i hi hs)⟩
theorem Fr.grown {S:Nat→Prop} {a w w':World} {row:Option Nat} (h:Fr S a w) (hg:w.grownBy w' row) (hr:∀k,row=some k→S k∨a.heap.size≤k):Fr S a w':=
 ⟨hg.os.trans h.os,hg.tape.trans h.tape,hg.output.trans h.output,Nat.le_trans h.size hg.size,fun i hi hs=>
  (hg.block i (Nat.lt_of_lt_of_le hi h.size) (fun e=>by rcases hr i e.symm with h1|h1;exact hs h1;omega)).trans (h.block i hi hs)⟩
theorem Fr.cell {S:Nat→Prop} {w w':World} (h:Fr S w w') {p:Addr} (hp:p.block<w.heap.size) (hs:¬S p.block):w'.cell? p=w.cell? p:=World.cell?_of_block (w:=w) (h.block p.block hp hs)
theorem Fr.heap {S:Nat→Prop} {w w':World} (h:Fr S w w') {k:Nat} {o:Obj} (hk:w.heap[k]? =some o) (hs:¬S k):w'.heap[k]? =some o:=(h.block k (lt_of_block hk) hs).trans hk
theorem Fr.below {w w':World} (h:Fr (fun _=>False) w w'):Below w.heap.size w w':=⟨h.os,h.tape,h.output,h.size,fun k hk=>h.block k hk id⟩
theorem Fr.ofBelow {S:Nat→Prop} {w w':World} (h:Below w.heap.size w w'):Fr S w w':=⟨h.os,h.tape,h.output,h.size,fun k hk _=>h.block k hk⟩
def val:List Nat→Nat
 |[]=>0
 |x::r=>x+4294967296*val r
def Limbs (ws:List Nat):Prop:=∀x∈ws,x<4294967296
def Top (ws:List Nat):Prop:=ws.getLast? ≠some 0
def vs (ws:List Nat):List Value:=ws.map (fun x:Nat=>Value.int .u32 (x:Int))
theorem val_append (a b:List Nat):val (a++b)=val a+4294967296^a.length*val b:=by
 induction a with
 |nil=>simp[val]
 |cons x r ih=>simp only[List.cons_append,val,ih,List.length_cons,Nat.pow_succ,Nat.mul_add,Nat.add_assoc];congr 2;rw[←Nat.mul_assoc,Nat.mul_comm 4294967296]
theorem val_snoc (a:List Nat) (x:Nat):val (a++[x])=val a+4294967296^a.length*x:=by rw[val_append];simp[val]
theorem val_lt (a:List Nat) (h:Limbs a):val a<4294967296^a.length:=by
 induction a with
 |nil=>simp[val]
 |cons x r ih=>
  have h1:=ih (fun y hy=>h y (List.mem_cons_of_mem _ hy));have h2:=h x List.mem_cons_self;simp only[val,List.length_cons,Nat.pow_succ];omega
theorem vs_length (ws:List Nat):(vs ws).length=ws.length:=by simp[vs]
theorem vs_append (a b:List Nat):vs (a++b)=vs a++vs b:=by simp[vs]
def IsNat (w:World) (b g:Nat) (ws:List Nat):Prop:=
 ∃cap T,w.heap[b]? =some (.cells #[.slice (some ⟨g,0,none⟩) ws.length cap] T (0,0))∧w.ownsRow 0 127 1 (.slice (some ⟨g,0,none⟩) ws.length cap) ws.length (vs ws)∧b≠g
theorem ownsRow_heap {w w':World} {v:Value} {n:Nat} {xs:List Value} {g cap:Nat} (hv:v=.slice (some ⟨g,0,none⟩) n cap) (h:w.ownsRow 0 127 1 v n xs) (hk:w'.heap[g]? =w.heap[g]?):w'.ownsRow 0 127 1 v n xs:=by
 obtain⟨h1,h2⟩:=h;refine⟨h1,?_⟩;rcases h2 with h2|⟨g',cap',cur,hv',hg,hh,r⟩
 ·exact Or.inl h2
 ·rw[hv]at hv';simp at hv';obtain⟨rfl,rfl⟩:=hv'
  exact Or.inr ⟨g,cap,cur,hv,hg,hk.trans hh,r⟩
theorem ownsRow_cap {w:World} {n:Nat} {xs:List Value} {base g cap:Nat} {e:TypeId} {size:Nat} (h:w.ownsRow base e size (.slice (some ⟨g,0,none⟩) n cap) n xs):n≤cap:=by
 rcases h.2 with⟨h2,_⟩|⟨g',cap',cur,hv,_,_,h3,_⟩
 ·simp at h2
 ·simp at hv;obtain⟨rfl,rfl⟩:=hv;exact h3
theorem ownsRow_lt {w:World} {n:Nat} {xs:List Value} {g cap:Nat} (h:w.ownsRow 0 127 1 (.slice (some ⟨g,0,none⟩) n cap) n xs):g<w.heap.size:=(h.lt g rfl).2
theorem IsNat.frame {S:Nat→Prop} {w w':World} {b g:Nat} {ws:List Nat} (h:IsNat w b g ws) (hf:Fr S w w') (hb:¬S b) (hg:¬S g):IsNat w' b g ws:=by
 obtain⟨cap,T,h1,h2,h3⟩:=h;exact⟨cap,T,hf.heap h1 hb,ownsRow_heap rfl h2 (hf.block g (ownsRow_lt h2) hg),h3⟩
theorem IsNat.drewN {w:World} {b g:Nat} {ws:List Nat} (h:IsNat w b g ws) (n:Nat):IsNat (w.drewN n) b g ws:=h
theorem IsNat.lt {w:World} {b g:Nat} {ws:List Nat} (h:IsNat w b g ws):b<w.heap.size∧g<w.heap.size∧b≠g:=by
 obtain⟨cap,T,h1,h2,h3⟩:=h;exact⟨lt_of_block h1,ownsRow_lt h2,h3⟩
theorem ownsRow_base {w:World} {base e size:Nat} {v:Value} {n:Nat} {xs:List Value} (h:w.ownsRow base e size v n xs):w.ownsRow 0 e size v n xs:=by
 obtain⟨h1,h2⟩:=h;refine⟨h1,?_⟩;rcases h2 with h2|⟨g,cap,cur,hv,hg,hh⟩
 ·exact .inl h2
 ·exact .inr ⟨g,cap,cur,hv,Nat.zero_le _,hh⟩
theorem run_append_d {P:Program} (w:World) (t ty e:TypeId) (i:TypeInfo) (z:Value) (size bytes:Nat) (ht:P.underlying t=some (.slice e)) (hi:P.info? e=some i) (hz:i.zero=some z)
 (hsize:i.size=size) (hby:i.bytes=bytes) (hzs:z.cells.size=size) (hsz:0<size)
 (v:Value) (n:Nat) (xs:List Value) (hown:w.ownsRow 0 e size v n xs)
 (a:Addr) (m c:Nat) (news:List Value) (hl:news.length=m*size) (hnews:∀j u,news[j]? =some u→w.cell? (a.add j)=some u) (h1:∀u∈news,u.oneCell'=true)
 (h63:n+m≤maxLen) (hbytes:(n+m)*bytes≤140737488355328):
 ∃v' w',(Builtin.append_ #[t,t] ty #[v,.slice (some a) m c]).run P w=.ok v' w'∧w'.ownsRow 0 e size v' (n+m) (xs++news)∧w.grownBy w' v.ownBlock∧
  (∀g',v'.ownBlock=some g'→v.ownBlock=some g'∨w.heap.size≤g'):=by
 rcases hown.2 with⟨rfl,rfl⟩|⟨g,cap,cur,rfl,hbg,hg,hnc,hcm,hcs,htake⟩
 ·have hx:xs=[]:=List.eq_nil_of_length_eq_zero (by simpa using hown.1)
  subst hx;obtain⟨v',w',h2,h3,h4,h5⟩:=run_append_own (P:=P) w w.heap.size t ty e i z size bytes ht hi hz hsize hby hzs hsz _ 0 [] (World.ownsRow_nil w _ e size) a m c news hl hnews h1 h63 hbytes (Nat.le_refl _);exact⟨v',w',h2,ownsRow_base h3,h4,fun g' hg'=>.inr (h3.lt g' hg').1⟩
 ·by_cases hroom:n+m≤cap
  ·obtain⟨w',h2,h3,h4⟩:=run_append_fits (P:=P) w 0 t ty e i size ht hi hsize g n cap xs hown a m c news hl hnews h1 hroom
   exact⟨_,w',h2,h3,h4,fun g' hg'=>.inl hg'⟩
  ·obtain⟨v',w',h2,h3,h4⟩:=run_append_arg_grows (P:=P) w t ty e i z size bytes ht hi hz hsize hby hzs hsz ⟨g,0,none⟩ n cap xs hown.1 (hown.cells (g:=g) rfl) a m c news hl hnews (by omega) h63 hbytes
   exact⟨v',w',h2,ownsRow_base h3,⟨h4.os,h4.tape,h4.output,h4.size,fun k hk _=>h4.block k hk (by simp)⟩,fun g' hg'=>.inr (h3.lt g' hg').1⟩
theorem wpList_append_d {P:Program} (w:World) {ops:Array Oper} {rest:List Oper} {o:Oper} {a:Act} {Q:Exit→Act→World→Prop} (hgd:o.guard=none) (s x:Operand) (t:TypeId)
 (ho:o.op=.call {callee:=.builtin .append,args:=#[s,x],argTypes:=#[t,t]})
 (e:TypeId) (i:TypeInfo) (z:Value) (size bytes:Nat) (ht:P.underlying t=some (.slice e)) (hi:P.info? e=some i) (hz:i.zero=some z)
 (hsize:i.size=size) (hby:i.bytes=bytes) (hzs:z.cells.size=size) (hsz:0<size)
 (v:Value) (n:Nat) (xs:List Value) (hs:a.eval s=v) (hown:w.ownsRow 0 e size v n xs)
 (ad:Addr) (m c:Nat) (news:List Value) (hx:a.eval x=.slice (some ad) m c) (hl:news.length=m*size) (hnews:∀j u,news[j]? =some u→w.cell? (ad.add j)=some u) (h1:∀u∈news,u.oneCell'=true)
 (h63:n+m≤maxLen) (hbytes:(n+m)*bytes≤140737488355328)
 (h:∀v' w',w'.ownsRow 0 e size v' (n+m) (xs++news)→w.grownBy w' v.ownBlock→(∀g',v'.ownBlock=some g'→v.ownBlock=some g'∨w.heap.size≤g')→wpList P ops Q rest (a.put o.dst v') w'):wpList P ops Q (o::rest) a w:=by
 refine wpList_plain hgd fun _ hK=>?_
 obtain⟨v',w',hr,h2,h3,h4⟩:=run_append_d (P:=P) w t o.type e i z size bytes ht hi hz hsize hby hzs hsz v n xs hown ad m c news hl hnews h1 h63 hbytes;unfold Oper.wp execOp;simp only[ho,resolve,invoke,builtin,Sem.run_bind,Sem.run_pure,Result.andThen_ok,List.map_toArray,List.map_cons,List.map_nil,hs,hx,hr];exact hK _ _ (h v' w' h2 h3 h4)
theorem row_succ {w:World} {base:Nat} {e:TypeId} {size:Nat} {v:Value} {k:Nat} {xs:List Value} (h:w.ownsRow base e size v (k+1) xs):∃g cap,v=.slice (some ⟨g,0,none⟩) (k+1) cap:=by
 rcases h.2 with⟨_,h2⟩|⟨g,cap,_,hv,_⟩
 ·omega
 ·exact⟨g,cap,hv⟩
theorem IsNat.put {w:World} {b g cap T:Nat} {u:Value} {ws:List Nat} (hb:w.heap[b]? =some (.cells #[u] T (0,0))) (ho:w.ownsRow 0 127 1 (.slice (some ⟨g,0,none⟩) ws.length cap) ws.length (vs ws)) (hne:b≠g):
 IsNat (w.setCell ⟨b,0,none⟩ (.slice (some ⟨g,0,none⟩) ws.length cap)) b g ws:=
 ⟨cap,T,one_setCell hb,ownsRow_heap rfl ho (Below.heap_setCell _ _ _ _ (by simpa using hne.symm)),hne⟩
theorem Limbs.nil:Limbs []:=by intro x hx;cases hx
theorem Limbs.append {a b:List Nat} (ha:Limbs a) (hb:Limbs b):Limbs (a++b):=by
 intro x hx;rw[List.mem_append]at hx;rcases hx with hx|hx
 ·exact ha x hx
 ·exact hb x hx
theorem Limbs.left {a b:List Nat} (h:Limbs (a++b)):Limbs a:=fun x hx=>h x (List.mem_append_left _ hx)
theorem Limbs.one {x:Nat} (h:x<4294967296):Limbs [x]:=by intro y hy;simp at hy;omega
theorem Limbs.take {a:List Nat} (h:Limbs a) (k:Nat):Limbs (a.take k):=fun x hx=>h x (List.mem_of_mem_take hx)
theorem top_of_ge (os:List Nat) (hl:Limbs os) (h:os=[]∨4294967296^(os.length-1)≤val os):Top os:=by
 rcases List.eq_nil_or_concat os with rfl|⟨i,x,rfl⟩
 ·simp[Top]
 ·rcases h with h|h
  ·simp at h
  ·rw[List.concat_eq_append]at*
   rw[val_snoc]at h;have:=val_lt i hl.left;simp only[List.length_append,List.length_cons,List.length_nil,Nat.zero_add,Nat.add_sub_cancel]at h;intro e;simp at e;subst e;omega
theorem ge_of_top (os:List Nat) (ht:Top os) (h:os≠[]):4294967296^(os.length-1)≤val os:=by
 rcases List.eq_nil_or_concat os with rfl|⟨i,x,rfl⟩
 ·exact absurd rfl h
 ·rw[List.concat_eq_append]at*
  rw[val_snoc];simp only[List.length_append,List.length_cons,List.length_nil,Nat.zero_add,Nat.add_sub_cancel];have hx:x≠0:=by intro e;apply ht;simp[e]
  exact Nat.le_trans (Nat.le_mul_of_pos_right _ (by omega)) (Nat.le_add_left _ _)
theorem len_le (os:List Nat) (ht:Top os) (k:Nat) (h:val os<4294967296^k):os.length≤k:=by
 by_cases e:os=[]
 ·simp[e]
 ·have:=ge_of_top os ht e
  have h2:4294967296^(os.length-1)<4294967296^k:=Nat.lt_of_le_of_lt this h;have:=(Nat.pow_lt_pow_iff_right (by omega:1<4294967296)).1 h2;omega
theorem val_zero (os:List Nat) (ht:Top os) (h:val os=0):os=[]:=by
 have:=len_le os ht 0 (by omega);exact List.eq_nil_of_length_eq_zero (by omega)
theorem lt_of_len (a b:List Nat) (ha:Limbs a) (hb:Top b) (h:a.length<b.length):val a<val b:=by
 have h1:=val_lt a ha;have h2:=ge_of_top b hb (by intro e;subst e;simp at h);have h3:4294967296^a.length≤4294967296^(b.length-1):=Nat.pow_le_pow_right (by omega) (by omega);omega
theorem lt_of_word (a b:List Nat) (ha:Limbs a) (hl:a.length=b.length) (i:Nat) (hi:i<a.length) (hd:a.drop (i+1)=b.drop (i+1)) (hx:a[i]<b[i]):val a<val b:=by
 have e1:a=a.take i++(a[i]::a.drop (i+1)):=by rw[List.getElem_cons_drop,List.take_append_drop]
 have e2:b=b.take i++(b[i]::b.drop (i+1)):=by rw[List.getElem_cons_drop,List.take_append_drop]
 have h1:=val_lt (a.take i) (ha.take i);rw[e1,e2,val_append,val_append,hd];simp only[List.length_take,val];rw[Nat.min_eq_left (by omega),Nat.min_eq_left (by omega)];rw[List.length_take,Nat.min_eq_left (by omega)]at h1;have:4294967296^i*(a[i]+4294967296*val (b.drop (i+1))+1)≤4294967296^i*(b[i]+4294967296*val (b.drop (i+1))):=Nat.mul_le_mul_left _ (by omega);rw[Nat.mul_add,Nat.mul_one]at this;omega
def Nt (w:World) (b g N:Nat):Prop:=∃ws,IsNat w b g ws∧Limbs ws∧Top ws∧val ws=N
theorem Nt.frame {S:Nat→Prop} {w w':World} {b g N:Nat} (h:Nt w b g N) (hf:Fr S w w') (hb:¬S b) (hg:¬S g):Nt w' b g N:=by
 obtain⟨ws,h1,h2⟩:=h;exact⟨ws,h1.frame hf hb hg,h2⟩
theorem Nt.lt {w:World} {b g N:Nat} (h:Nt w b g N):b<w.heap.size∧g<w.heap.size∧b≠g:=h.choose_spec.1.lt
def Sm (N:Nat):Prop:=N<4294967296^1000
theorem Sm.len {ws:List Nat} (h:Sm (val ws)) (ht:Top ws):ws.length≤1000:=len_le ws ht 1000 h
theorem Tryz.info127:(Tryz.prog.info? 127).map (fun i=>(i.zero,i.size,i.bytes))=some (some (.int .u32 0),1,4):=by kernel_rfl
theorem mul_wrap (x f y:Nat) (hx:x<4294967296) (hf:f<4294967296) (hy:y<4294967296):IntKind.u64.wrap ((y:Int)+IntKind.u64.wrap ((x:Int)*(f:Int)))=((y+x*f:Nat):Int):=by
 have:x*f≤4294967295*4294967295:=Nat.mul_le_mul (by omega) (by omega);have h2:((x*f:Nat):Int)=(x:Int)*(f:Int):=Int.natCast_mul x f;rw[←h2,IntWalk.u64_in ((x*f:Nat):Int) (by omega),IntWalk.u64_in _ (by omega)];omega
theorem tp_val (os ws:List Nat) (f c y k:Nat) (hk:k<ws.length) (ho:os.length=k) (h:val os+4294967296^k*y=f*val (ws.take k)+c):
 val (os++[(y+ws[k]*f) % 4294967296])+4294967296^(k+1)*((y+ws[k]*f)/4294967296)=f*val (ws.take (k+1))+c:=by
 have h1:ws.take (k+1)=ws.take k++[ws[k]]:=by rw[List.take_succ_eq_append_getElem hk]
 rw[h1,val_snoc,val_snoc,ho,List.length_take_of_le (by omega),Nat.pow_succ,Nat.mul_assoc,Nat.add_assoc,←Nat.mul_add,Nat.mod_add_div,Nat.mul_add,Nat.mul_add];rw[←Nat.mul_assoc f,Nat.mul_comm f (4294967296^k),Nat.mul_assoc,Nat.mul_comm f ws[k]];omega
theorem tp_step {w wr:World} {b g cap T:Nat} {ws os:List Nat} {f c y k:Nat} (hws:Limbs ws) (hk:k<ws.length) (hos:os.length=k) (hlo:Limbs os) (hy:y<4294967296) (hf:f<4294967296)
 (hE:val os+4294967296^k*y=f*val (ws.take k)+c) (hb:wr.heap[b]? =some (.cells #[.slice (some ⟨g,0,none⟩) ws.length cap] T (0,0)))
 (ho:wr.ownsRow 0 127 1 (.slice (some ⟨g,0,none⟩) ws.length cap) ws.length (vs (os++ws.drop k))) (hF:Fr (fun i=>i=b∨i=g) w wr) (hne:b≠g):
 ∃(os':List Nat) (y':Nat),os'.length=k+1∧Limbs os'∧y'<4294967296∧Hid (val os'+4294967296^(k+1)*y'=f*val (ws.take (k+1))+c)∧(((y+ws[k]*f:Nat):Int)/4294967296=(y':Int))∧
  (wr.setCell ⟨g,k,none⟩ (.int .u32 (((y+ws[k]*f:Nat):Int) % 4294967296))).heap[b]? =some (.cells #[.slice (some ⟨g,0,none⟩) ws.length cap] T (0,0))∧
  (wr.setCell ⟨g,k,none⟩ (.int .u32 (((y+ws[k]*f:Nat):Int) % 4294967296))).ownsRow 0 127 1 (.slice (some ⟨g,0,none⟩) ws.length cap) ws.length (vs (os'++ws.drop (k+1)))∧
  Fr (fun i=>i=b∨i=g) w (wr.setCell ⟨g,k,none⟩ (.int .u32 (((y+ws[k]*f:Nat):Int) % 4294967296))):=by
 have hx:ws[k]<4294967296:=hws _ (List.getElem_mem hk);have hm:ws[k]*f≤4294967295*4294967295:=Nat.mul_le_mul (by omega) (by omega);refine⟨os++[(y+ws[k]*f) % 4294967296],(y+ws[k]*f)/4294967296,by simp[hos],?_,by omega,tp_val os ws f c y k hk hos hE,by omega,?_,?_,hF.setCell (.inl (.inr rfl)) _⟩
 ·intro x hx;rw[List.mem_append]at hx;rcases hx with hx|hx
  ·exact hlo x hx
  ·simp at hx;omega
 ·rw[Below.heap_setCell _ _ _ _ (by simpa using hne)];exact hb
 ·have:=(ho.stored k (.int .u32 (((y+ws[k]*f:Nat):Int) % 4294967296))).1
  have e:(vs (os++ws.drop k)).set k (.int .u32 (((y+ws[k]*f:Nat):Int) % 4294967296))=vs (os++[(y+ws[k]*f) % 4294967296]++ws.drop (k+1)):=by
   rw[List.drop_eq_getElem_cons hk,vs,vs];simp only[List.map_append,List.map_cons,List.append_assoc,List.cons_append,List.nil_append];rw[List.set_append_right _ _ (by simp[hos]),List.length_map,hos,Nat.sub_self,List.set_cons_zero];congr 3
  rwa[e]at this
theorem timesPlus_any (b g:Nat) (ws:List Nat) (f c:Nat) (w:World) (hl:ws.length≤1000000) (hf:f<4294967296) (hc:c<4294967296) (hws:Limbs ws) (hN:IsNat w b g ws):
 Calls Tryz.prog 122 #[.pointer (some ⟨b,0,none⟩),.int .u32 f,.int .u32 c] w fun e w'=>e=.returned (.tuple #[])∧∃g' os y,IsNat w' b g' (if y=0 then os else os++[y])∧os.length=ws.length∧Limbs os∧y<4294967296∧val os+4294967296^ws.length*y=f*val ws+c∧Fr (fun i=>i=b∨i=g) w w'∧(g'=g∨w.heap.size≤g'):=by
 obtain⟨cap,T,hb,ho,hne⟩:=hN;have hbc:=cell_of_one hb;go_enter Tryz.func122,Tryz.ntmps122;go_wp2
 go_loopw [6,16] (fun cy i wr=>∃(k:Nat) (os:List Nat) (y:Nat),k≤ws.length∧os.length=k∧Limbs os∧y<4294967296∧Hid (val os+4294967296^k*y=f*val (ws.take k)+c)∧cy=.int .u64 y∧i=.int .i64 k∧
  wr.heap[b]? =some (.cells #[.slice (some ⟨g,0,none⟩) ws.length cap] T (0,0))∧wr.ownsRow 0 127 1 (.slice (some ⟨g,0,none⟩) ws.length cap) ws.length (vs (os++ws.drop k))∧Fr (fun i=>i=b∨i=g) w wr)
  (fun _ i _=>ws.length-(intOf i).toNat)
 case atStart=>exact⟨0,[],c,Nat.zero_le _,rfl,(by intro x hx;cases hx),hc,(by simp[Hid,val]),rfl,rfl,hb,(by simpa using ho),Fr.refl _ _⟩
 case round=>
  obtain⟨k,os,y,hk,hos,hlo,hy,hE,rfl,rfl,hb1,ho1,hF⟩:=hrel;have hbc1:=cell_of_one hb1;by_cases hlt:k<ws.length
  ·have hx:ws[k]<4294967296:=hws _ (List.getElem_mem hlt)
   have hcx:wr.cell? ⟨g,k,none⟩=some (.int .u32 (ws[k]:Nat)):=by
    rw[ho1.cellAt k (by omega),vs,List.getElem?_map,List.getElem?_append_right (by omega),hos,Nat.sub_self,List.getElem?_drop,Nat.add_zero,List.getElem?_eq_getElem hlt];rfl
   have hfx:=ho1.frozenAt k;obtain⟨os',y',r1,r2,r3,r4,r5,r6,r7,r8⟩:=tp_step hws hlt hos hlo hy hf hE.out hb1 ho1 hF hne;have R5:Hid _:=r5;have R6:Hid _:=r6;have R7:Hid _:=r7;have R8:Hid _:=r8;clear r5 r6 r7 r8 ho1 hF hE;go_wp2;go_roundw
   case rel=>
    rw[mul_wrap _ _ _ hx hf hy];exact⟨k+1,os',y',hlt,r1,r2,r3,r4,by rw[R5.out],by go_num,R6.out,R7.out,R8.out⟩
   case measure=>simp[intOf];omega
  ·have hkk:k=ws.length:=by omega
   have HE:Hid _:=hE;subst hkk;simp only[List.drop_length,List.append_nil]at ho1;rw[List.take_length]at HE;by_cases hy0:y=0
   ·subst hy0
    go_wp2;go_end0;exact⟨rfl,g,os,0,⟨cap,T,by rw[if_pos rfl,hos];exact hb1,by rw[if_pos rfl,hos];exact ho1,hne⟩,hos,hlo,by omega,HE.out,hF,.inl rfl⟩
   ·have hyn:((y:Int)!=0)=true:=by simp;omega
    obtain⟨i0,hi,hz0,hz1,hz2⟩:=info_parts Tryz.info127
    go_wp2_with (first
     |(at_builtin;refine wpList_append_d _ rfl _ _ 211 rfl 127 i0 (.int .u32 0) 1 4 Tryz.underlying211 hi hz0 hz1 hz2 rfl (by decide) _ _ _ rfl (ho1.alloc _) ⟨wr.heap.size,0,none⟩ 1 1 [.int .u32 y] rfl rfl ?c1 ?c2 ?c3 ?c4 ?_)
     |go_in)
    case c1=>exact cell_one_new _ _ _
    case c2=>intro u hu;simp at hu;subst hu;rfl
    case c3=>unfold maxLen;omega
    case c4=>omega
    intro v' w1 hown' hgrow hwhere;obtain⟨g',cap',rfl⟩:=row_succ hown';have hw2:=hwhere g' rfl;clear hwhere
    have hgz:w1.heap[b]? =some (.cells #[.slice (some ⟨g,0,none⟩) ws.length cap] T (0,0)):=by
     rw[hgrow.block b (by have:=lt_of_block hb1;simp;omega) (by simpa[Value.ownBlock]using hne),Below.heap_alloc _ _ _ (lt_of_block hb1)];exact hb1
    have hbc2:=cell_of_one hgz;have hfz2:=free_of_one hgz;go_wp2;go_end0
    have hbg':b≠g':=by
     rcases hw2 with h|h
     ·simp[Value.ownBlock]at h;rw[←h];exact hne
     ·have:=lt_of_block hb1;omega
    refine⟨rfl,g',os,y,?_,hos,hlo,hy,HE.out,((hF.alloc _).grown hgrow (fun k hk=>.inl (.inr (by simpa[Value.ownBlock]using hk.symm)))).setCell (.inl (.inl rfl)) _,?_⟩
    ·rw[if_neg hy0]
     have hle:(os++[y]).length=ws.length+1:=by simp[hos]
     have:=IsNat.put (ws:=os++[y]) (cap:=cap') hgz (by rw[hle,vs_append];exact hown') hbg';rwa[hle]at this
    ·rcases hw2 with h|h
     ·simp[Value.ownBlock]at h;exact .inl h.symm
     ·have:=hF.size;exact .inr (by omega)
theorem timesPlus_nt (b g N f c:Nat) (w:World) (hS:Sm N) (hf:f<4294967296) (hf0:0<f) (hc:c<4294967296) (hN:Nt w b g N):
 Calls Tryz.prog 122 #[.pointer (some ⟨b,0,none⟩),.int .u32 f,.int .u32 c] w fun e w'=>e=.returned (.tuple #[])∧∃g',Nt w' b g' (f*N+c)∧Fr (fun i=>i=b∨i=g) w w'∧(g'=g∨w.heap.size≤g'):=by
 obtain⟨ws,h1,h2,h3,rfl⟩:=hN;have hl:=hS.len h3;refine(timesPlus_any b g ws f c w (by omega) hf hc h2 h1).mono ?_;rintro e w' ⟨rfl,g',os,y,r1,r2,r3,r4,r5,r6,r7⟩;refine⟨rfl,g',⟨_,r1,?_,?_,?_⟩,r6,r7⟩
 ·by_cases hy:y=0
  ·rw[if_pos hy];exact r3
  ·rw[if_neg hy];exact r3.append (Limbs.one r4)
 ·by_cases hy:y=0
  ·rw[if_pos hy]
   subst hy;refine top_of_ge os r3 ?_;by_cases hw:ws=[]
   ·left;subst hw;exact List.eq_nil_of_length_eq_zero (by simpa using r2)
   ·right
    have:=ge_of_top ws h3 hw;rw[r2];have h4:val ws≤f*val ws:=Nat.le_mul_of_pos_left _ hf0;omega
  ·rw[if_neg hy];simp[Top,hy]
 ·by_cases hy:y=0
  ·rw[if_pos hy];subst hy;omega
  ·rw[if_neg hy,val_snoc,r2];exact r5
def natLen (w:World) (b:Nat):Nat:=match w.cell? ⟨b,0,none⟩with|some (.slice _ n _)=>n|_=>0
theorem natLen_of {w:World} {b n cap T:Nat} {a:Option Addr} (h:w.heap[b]? =some (.cells #[.slice a n cap] T (0,0))):natLen w b=n:=by simp[natLen,cell_of_one h]
theorem ownsRow_cut {w:World} {g n cap:Nat} {xs:List Nat} {x:Nat} (h:w.ownsRow 0 127 1 (.slice (some ⟨g,0,none⟩) (n+1) cap) (n+1) (vs (xs++[x]))):w.ownsRow 0 127 1 (.slice (some ⟨g,0,none⟩) n cap) n (vs xs):=by
 obtain⟨h1,h2⟩:=h;simp[vs]at h1;refine⟨by simp[vs,h1],?_⟩;rcases h2 with⟨_,h2⟩|⟨g',cap',cur,hv,hg,hh,ha,hb,hc,hd⟩
 ·omega
 ·simp at hv;obtain⟨rfl,rfl⟩:=hv
  refine .inr ⟨g,cap,cur,rfl,hg,hh,by omega,hb,hc,?_⟩;have:=congrArg (List.take n) hd;rw[List.take_take,Nat.min_eq_left (by omega),vs_append,List.take_append_of_le_length (by simp[vs,h1]),List.take_of_length_le (l:=vs xs) (by simp[vs,h1])]at this;simpa using this
theorem trim_any (b g:Nat) (ws:List Nat) (w:World) (hl:ws.length≤1000000) (hN:IsNat w b g ws):
 Calls Tryz.prog 167 #[.pointer (some ⟨b,0,none⟩)] w fun e w'=>e=.returned (.tuple #[])∧∃us,IsNat w' b g us∧(∃k,ws=us++List.replicate k 0)∧Top us∧Fr (fun i=>i=b) w w':=by
 obtain⟨cap,T,hb,ho,hne⟩:=hN;go_enter Tryz.func167,Tryz.ntmps167;go_wp2
 go_loopw [] (fun wr=>∃us:List Nat,(∃k,ws=us++List.replicate k 0)∧wr.heap[b]? =some (.cells #[.slice (some ⟨g,0,none⟩) us.length cap] T (0,0))∧wr.ownsRow 0 127 1 (.slice (some ⟨g,0,none⟩) us.length cap) us.length (vs us)∧Fr (fun i=>i=b) w wr)
  (fun wr=>natLen wr b)
 case atStart=>exact⟨ws,⟨0,by simp⟩,hb,ho,Fr.refl _ _⟩
 case round=>
  obtain⟨us,⟨k,hk⟩,hb1,ho1,hF⟩:=hrel;have hbc:=cell_of_one hb1;have hbf:=free_of_one hb1;have hlen:us.length≤1000000:=by have:=congrArg List.length hk;simp at this;omega
  rcases List.eq_nil_or_concat us with rfl|⟨xs,x,rfl⟩
  ·have hd:decide ((0:Int)<((([]:List Nat).length:Nat):Int))=false:=by simp
   simp only[List.length_nil]at*
   go_wp2_with fail;go_quiet (fail)
   go_wp2;go_end0;exact⟨rfl,[],⟨cap,T,hb1,ho1,hne⟩,⟨k,hk⟩,by simp[Top],hF.drewN nq⟩
  ·rw[List.concat_eq_append]at*
   simp only[List.length_append,List.length_cons,List.length_nil,Nat.zero_add]at hb1 ho1 hbc hlen;have hcap:=ownsRow_cap ho1;have hd:(0:Int)<((xs.length+1:Nat):Int):=by omega
   have hcx:wr.cell? ⟨g,xs.length,none⟩=some (.int .u32 (x:Nat)):=by
    rw[ho1.cellAt xs.length (by omega),vs,List.getElem?_map];simp
   by_cases hx:x=0
   ·subst hx
    go_wp2_with fail;go_quiet (fail)
    go_wp2;go_region;go_wp2;have hs1:((wr.drewN (nq+1)).setCell ⟨b,0,none⟩ (.slice (some ⟨g,0,none⟩) xs.length cap)).heap[b]? =some (.cells #[.slice (some ⟨g,0,none⟩) xs.length cap] T (0,0)):=one_setCell (w:=wr.drewN (nq+1)) hb1;go_roundw
    case rel=>
     exact⟨xs,⟨k+1,by rw[hk,List.append_assoc];rfl⟩,hs1,ownsRow_heap rfl (ownsRow_cut ho1) (Below.heap_setCell (wr.drewN (nq+1)) _ _ _ (by simpa using hne.symm)),(hF.drewN _).setCell (.inl rfl) _⟩
    case measure=>rw[natLen_of hs1,natLen_of hb1];omega
   ·have hx0:((x:Int)==0)=false:=by simp;omega
    go_wp2_with fail;go_quiet (fail)
    go_wp2;go_end0;exact⟨rfl,xs++[x],⟨cap,T,by rw[List.length_append];exact hb1,by rw[List.length_append];exact ho1,hne⟩,⟨k,hk⟩,by simp[Top,hx],hF.drewN nq⟩
theorem val_replicate (k:Nat):val (List.replicate k 0)=0:=by induction k with|zero=>rfl|succ k ih=>simp[List.replicate_succ,val,ih]
theorem trim_nt (b g:Nat) (ws:List Nat) (w:World) (hl:ws.length≤1000000) (hws:Limbs ws) (hN:IsNat w b g ws):
 Calls Tryz.prog 167 #[.pointer (some ⟨b,0,none⟩)] w fun e w'=>e=.returned (.tuple #[])∧Nt w' b g (val ws)∧Fr (fun i=>i=b) w w':=by
 refine(trim_any b g ws w hl hN).mono ?_;rintro e w' ⟨rfl,us,h1,⟨k,rfl⟩,h3,h4⟩;exact⟨rfl,⟨us,h1,hws.left,h3,by rw[val_append,val_replicate,Nat.mul_zero,Nat.add_zero]⟩,h4⟩
theorem newNatural_nt (n:Nat) (w:World) (hn:n<18446744073709551616):
 Calls Tryz.prog 111 #[.int .u64 n] w fun e w'=>∃b g,e=.returned (.pointer (some ⟨b,0,none⟩))∧Nt w' b g n∧Fr (fun _=>False) w w'∧w.heap.size≤b∧w.heap.size≤g:=by
 go_enter Tryz.func111,Tryz.ntmps111
 go_wp2_with fail
 have hN:IsNat ((w.alloc (Obj.cells #[Value.int IntKind.u32 ((n:Int) % 4294967296),Value.int IntKind.u32 ((n:Int)/4294967296)] 127)).alloc (Obj.cells #[Value.slice (some {block:=w.heap.size,off:=0}) 2 2] 213)) (w.heap.size+1) w.heap.size [n % 4294967296,n/4294967296]:=by
  refine⟨2,213,?_,?_,by omega⟩
  ·have:=heap_alloc_new (w.alloc (Obj.cells #[Value.int IntKind.u32 ((n:Int) % 4294967296),Value.int IntKind.u32 ((n:Int)/4294967296)] 127)) (Obj.cells #[Value.slice (some {block:=w.heap.size,off:=0}) 2 2] 213)
   rw[World.size_alloc]at this;exact this
  ·exact(World.ownsRow_lit w (size:=1) #[Value.int IntKind.u32 ((n:Int) % 4294967296),Value.int IntKind.u32 ((n:Int)/4294967296)] 2 (Nat.zero_le _) (by decide) rfl).alloc _
 have hF:Fr (fun _=>False) w ((w.alloc (Obj.cells #[Value.int IntKind.u32 ((n:Int) % 4294967296),Value.int IntKind.u32 ((n:Int)/4294967296)] 127)).alloc (Obj.cells #[Value.slice (some {block:=w.heap.size,off:=0}) 2 2] 213)):=((Fr.refl _ w).alloc _).alloc _;refine(trim_nt _ _ _ _ (by simp) ?_ hN).mono ?_
 ·intro x hx;simp at hx;omega
 ·rintro e w' ⟨rfl,h1,h2⟩
  have hv:val [n % 4294967296,n/4294967296]=n:=by simp only[val];omega
  rw[hv]at h1;have H1:Hid _:=h1;have H2:Hid _:=h2;clear h1 h2 hN hv;go_wp2;go_ret;exact⟨_,_,rfl,H1.out,hF.trans' H2.out (fun i hi=>.inr (by omega)),by omega,Nat.le_refl _⟩
theorem nat_cell {w:World} {g cap:Nat} {ws:List Nat} (ho:w.ownsRow 0 127 1 (.slice (some ⟨g,0,none⟩) ws.length cap) ws.length (vs ws)) (k:Nat) (hk:k<ws.length):w.cell? ⟨g,k,none⟩=some (.int .u32 (ws[k]:Nat)):=by
 rw[ho.cellAt k (by omega),vs,List.getElem?_map,List.getElem?_eq_getElem hk];rfl
theorem compare_any (b g c h:Nat) (ws ms:List Nat) (w:World) (hl:ws.length≤1000000) (hl2:ms.length≤1000000) (hws:Limbs ws) (hms:Limbs ms) (htw:Top ws) (htm:Top ms) (hN:IsNat w b g ws) (hM:IsNat w c h ms):
 Calls Tryz.prog 120 #[.pointer (some ⟨b,0,none⟩),.pointer (some ⟨c,0,none⟩)] w fun e w'=>∃r:Int,e=.returned (.int .i64 r)∧(r<0↔val ws<val ms)∧(r=0↔val ws=val ms)∧ -1000000≤r∧r≤1000000∧∃m,w'=w.drewN m:=by
 obtain⟨cap,T,hb,ho,hne⟩:=hN;obtain⟨cap2,T2,hb2,ho2,hne2⟩:=hM;have hbc:=cell_of_one hb;have hbc2:=cell_of_one hb2;by_cases hle:ws.length=ms.length
 ·have hd:((ws.length:Int)!=(ms.length:Int))=false:=by simp;omega
  have hle1:ws.length≤ms.length:=by omega
  have hle2:ms.length≤ws.length:=by omega
  have HL:Hid (ws.length=ms.length):=hle;clear hle;go_enter Tryz.func120,Tryz.ntmps120
  go_wp2_with fail;go_quiet (fail)
  go_wp2
  go_loopw [5] (fun i wr=>∃k:Nat,k≤ws.length∧i=.int .i64 ((k:Int)-1)∧Hid (ws.drop k=ms.drop k)∧∃m,wr=w.drewN m) (fun i _=>(intOf i+1).toNat)
  case atStart=>exact⟨ws.length,Nat.le_refl _,rfl,by simp[Hid];exact(by rw[HL.out];simp),_,rfl⟩
  case round=>
   obtain⟨k,hk,rfl,hE,m,rfl⟩:=hrel;rcases Nat.eq_zero_or_pos k with rfl|hk0
   ·go_wp2
    go_ret;have:ws=ms:=by simpa[Hid]using hE
    exact⟨0,rfl,by rw[this];omega,by simp[this],by omega,by omega,by first|exact⟨_,rfl⟩|(simp only[World.drewN_drewN];exact⟨_,rfl⟩)⟩
   ·obtain⟨j,rfl⟩:∃j,k=j+1:=⟨k-1,by omega⟩
    have hcx:=nat_cell ho j (by omega);have hcy:=nat_cell ho2 j (by omega);have hbd1:j<ws.length:=by omega
    have hbd2:j<ms.length:=by omega
    have hc1:=ownsRow_cap ho;have hc2:=ownsRow_cap ho2;rcases Nat.lt_trichotomy ws[j] ms[j]with hx|hx|hx
    ·go_wp2_with fail;go_quiet (fail)
     go_wp2;go_ret;have:=lt_of_word ws ms hws HL.out j hbd1 hE.out hx;exact⟨-1,rfl,by omega,by omega,by omega,by omega,by first|exact⟨_,rfl⟩|(simp only[World.drewN_drewN];exact⟨_,rfl⟩)⟩
    ·have hn1:ms[j]≤ws[j]:=by omega
     have hn2:ws[j]≤ms[j]:=by omega
     have HX:Hid _:=hx;clear hx
     go_wp2_with fail;go_quiet (fail)
     go_wp2_with fail;go_quiet (fail)
     go_wp2;go_roundw
     case rel=>exact⟨j,by omega,by go_num,by show _=_;rw[List.drop_eq_getElem_cons hbd1,List.drop_eq_getElem_cons hbd2,HX.out,hE.out],by first|exact⟨_,rfl⟩|(simp only[World.drewN_drewN];exact⟨_,rfl⟩)⟩
     case measure=>simp[intOf]<;>omega
    ·go_wp2_with fail;go_quiet (fail)
     go_wp2_with fail;go_quiet (fail)
     go_wp2;go_ret;have:=lt_of_word ms ws hms HL.out.symm j hbd2 hE.out.symm hx;exact⟨1,rfl,by omega,by omega,by omega,by omega,by first|exact⟨_,rfl⟩|(simp only[World.drewN_drewN];exact⟨_,rfl⟩)⟩
 ·have hd:((ws.length:Int)!=(ms.length:Int))=true:=by simp;omega
  go_enter Tryz.func120,Tryz.ntmps120
  go_wp2_with fail;go_quiet (fail)
  go_wp2_with fail;go_quiet (fail)
  go_wp2;go_ret;rcases Nat.lt_or_gt_of_ne hle with hx|hx
  ·have:=lt_of_len ws ms hws htm hx
   exact⟨_,rfl,by omega,by omega,by omega,by omega,by first|exact⟨_,rfl⟩|(simp only[World.drewN_drewN];exact⟨_,rfl⟩)⟩
  ·have:=lt_of_len ms ws hms htw hx
   exact⟨_,rfl,by omega,by omega,by omega,by omega,by first|exact⟨_,rfl⟩|(simp only[World.drewN_drewN];exact⟨_,rfl⟩)⟩
theorem compare_nt (b g c h N M:Nat) (w:World) (hS:Sm N) (hS2:Sm M) (hN:Nt w b g N) (hM:Nt w c h M):
 Calls Tryz.prog 120 #[.pointer (some ⟨b,0,none⟩),.pointer (some ⟨c,0,none⟩)] w fun e w'=>∃r:Int,e=.returned (.int .i64 r)∧(r<0↔N<M)∧(r=0↔N=M)∧ -1000000≤r∧r≤1000000∧∃m,w'=w.drewN m:=by
 obtain⟨ws,h1,h2,h3,rfl⟩:=hN;obtain⟨ms,k1,k2,k3,rfl⟩:=hM;exact compare_any b g c h ws ms w (by have:=hS.len h3;omega) (by have:=hS2.len k3;omega) h2 k2 h3 k3 h1 k1
end Go.Proofs.YtmkkibaacclhnaaGreatDoor
