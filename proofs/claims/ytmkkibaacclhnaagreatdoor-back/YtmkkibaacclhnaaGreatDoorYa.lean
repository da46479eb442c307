/-
  A step of the walk, the part named Ya. No theorem of the row.
-/
import Derived.Test.YtmkkibaacclhnaaGreatDoorWy
import Derived.Test.YtmkkibaacclhnaaGreatDoorWu
import Derived.Lib.ValidLaws
import Derived.Test.YtmkkibaacclhnaaGreatDoorRc
namespace Go.Proofs.YtmkkibaacclhnaaGreatDoor
open Go.RowKit
set_option maxRecDepth 100000
set_option maxHeartbeats 16000000
def stepK {α:Type} (L:List (List UInt8×α)) (p:List UInt8×α):List (List UInt8×α):=
 L.take (posGo (L.map (·.1)) p.1 L.length)++[p]++L.drop (posGo (L.map (·.1)) p.1 L.length)
def ordK {α:Type} (L:List (List UInt8×α)):List (List UInt8×α):=L.foldl stepK []
theorem ordL_true (L:List KT):ordL true L=ordK L:=by
 unfold ordL ordK;congr 1
theorem ordL_false (L:List KT):ordL false L=L:=by
 have main:∀(L A:List KT),L.foldl (stepP false) A=A++L:=by
  intro L
  induction L with
  |nil=>intro A;simp
  |cons p L ih=>
   intro A;rw[List.foldl_cons,ih];simp[stepP]
 have:=main L [];rwa[List.nil_append]at this
theorem stepK_map {α β:Type} (g:List UInt8×α→List UInt8×β) (hg:∀p,(g p).1=p.1) (L:List (List UInt8×α)) (p:List UInt8×α):stepK (L.map g) (g p)=(stepK L p).map g:=by
 have hk:(L.map g).map (·.1)=L.map (·.1):=by
  rw[List.map_map];exact List.map_congr_left fun x _=>hg x
 unfold stepK;rw[hk,hg,List.length_map];simp only[List.map_append,List.map_take,List.map_drop,List.map_cons,List.map_nil]
theorem ordK_map {α β:Type} (g:List UInt8×α→List UInt8×β) (hg:∀p,(g p).1=p.1) (L:List (List UInt8×α)):ordK (L.map g)=(ordK L).map g:=by
 have main:∀(L A:List (List UInt8×α)),(L.map g).foldl stepK (A.map g)=(L.foldl stepK A).map g:=by
  intro L
  induction L with
  |nil=>intro A;rfl
  |cons p L ih=>
   intro A;rw[List.map_cons,List.foldl_cons,List.foldl_cons,stepK_map g hg,ih]
 exact main L []
theorem stepK_perm {α:Type} (L:List (List UInt8×α)) (p:List UInt8×α):(stepK L p).Perm (p::L):=by
 unfold stepK;generalize posGo (L.map (·.1)) p.1 L.length=k;have h1:(L.take k++[p]++L.drop k).Perm ([p]++L.take k++L.drop k):=(List.perm_append_comm).append_right _;rw[List.append_assoc [p],List.take_append_drop]at h1;exact h1
theorem ordK_perm {α:Type} (L:List (List UInt8×α)):(ordK L).Perm L:=by
 have main:∀(L A:List (List UInt8×α)),(L.foldl stepK A).Perm (A++L):=by
  intro L
  induction L with
  |nil=>intro A;simp
  |cons p L ih=>
   intro A;rw[List.foldl_cons];refine(ih _).trans ?_;refine((stepK_perm A p).append_right L).trans ?_
   show(p::(A++L)).Perm (A++p::L)
   exact List.perm_middle.symm
 have:=main L [];rwa[List.nil_append]at this
def SdK {α:Type} (L:List (List UInt8×α)):Prop:=L.Pairwise fun a b=>ltB b.1 a.1=false
theorem posGo_specK (ks:List (List UInt8)) (key:List UInt8) (k:Nat):(∀j,posGo ks key k≤j→j<k→ltB key (ks[j]?.getD [])=true)∧(posGo ks key k≠0→ltB key (ks[posGo ks key k-1]?.getD [])=false):=by
 induction k with
 |zero=>exact⟨fun j h1 h2=>by omega,fun h=>absurd rfl h⟩
 |succ k ih=>
  rw[posGo];by_cases h:ltB key (ks[k]?.getD [])=true
  ·rw[if_pos h]
   refine⟨fun j h1 h2=>?_,ih.2⟩;by_cases hj:j=k
   ·rw[hj];exact h
   ·exact ih.1 j h1 (by omega)
  ·rw[if_neg h]
   refine⟨fun j h1 h2=>by omega,fun _=>?_⟩;rw[Nat.add_sub_cancel];exact Bool.eq_false_iff.2 h
theorem ltB_le {x y z:List UInt8} (h1:ltB y x=false) (h2:ltB z y=false):ltB z x=false:=by
 cases hz:ltB z x with
 |false=>rfl
 |true=>
  exfalso;rcases ltB_total x y with h|rfl|h
  ·rw[ltB_trans hz h]at h2;cases h2
  ·rw[hz]at h2;cases h2
  ·rw[h]at h1;cases h1
theorem ltB_asymm {x y:List UInt8} (h:ltB x y=true):ltB y x=false:=by
 cases hy:ltB y x with
 |false=>rfl
 |true=>have:=ltB_trans h hy;rw[ltB_irrefl]at this;cases this
theorem stepK_sorted {α:Type} {L:List (List UInt8×α)} (h:SdK L) (p:List UInt8×α):SdK (stepK L p):=by
 obtain⟨s1,s2⟩:=posGo_specK (L.map (·.1)) p.1 L.length;have hle:=posGo_le (L.map (·.1)) p.1 L.length;unfold stepK;generalize posGo (L.map (·.1)) p.1 L.length=k at*;have hsplit:SdK (L.take k++L.drop k):=by rw[List.take_append_drop];exact h
 obtain⟨a1,a2,a3⟩:=List.pairwise_append.1 hsplit
 have key:∀j (hj:j<L.length),((L.map (·.1))[j]?.getD [])=(L[j]).1:=fun j hj=>by
  rw[List.getElem?_map,List.getElem?_eq_getElem hj];rfl
 have lo:∀x,x∈L.take k→ltB p.1 x.1=false:=by
  intro x hx;by_cases hk:k=0
  ·subst hk;simp at hx
  ·have hb:=s2 hk
   rw[key (k-1) (by omega)]at hb;obtain⟨i,hi,rfl⟩:=List.getElem_of_mem hx;have hi2:i<k:=by rw[List.length_take]at hi;omega
   rw[List.getElem_take];by_cases hik:i=k-1
   ·subst hik;exact hb
   ·exact ltB_le ((List.pairwise_iff_getElem.1 h) i (k-1) (by omega) (by omega) (by omega)) hb
 have hi:∀x,x∈L.drop k→ltB x.1 p.1=false:=by
  intro x hx;obtain⟨i,hi,rfl⟩:=List.getElem_of_mem hx;rw[List.length_drop]at hi;rw[List.getElem_drop];have:=s1 (k+i) (by omega) (by omega);rw[key (k+i) (by omega)]at this;exact ltB_asymm this
 refine List.pairwise_append.2 ⟨List.pairwise_append.2 ⟨a1,List.pairwise_singleton _ _,fun x hx y hy=>?_⟩,a2,fun x hx y hy=>?_⟩
 ·rw[List.mem_singleton.1 hy];exact lo x hx
 ·rcases List.mem_append.1 hx with hx|hx
  ·exact a3 x hx y hy
  ·rw[List.mem_singleton.1 hx];exact hi y hy
theorem ordK_sorted {α:Type} (L:List (List UInt8×α)):SdK (ordK L):=by
 have main:∀(L A:List (List UInt8×α)),SdK A→SdK (L.foldl stepK A):=by
  intro L
  induction L with
  |nil=>intro A h;exact h
  |cons p L ih=>intro A h;exact ih _ (stepK_sorted h p)
 exact main L [] List.Pairwise.nil
theorem ordK_same {α:Type} {L:List (List UInt8×α)} (h:SdK L):ordK L=L:=by
 have main:∀(L A:List (List UInt8×α)),SdK (A++L)→L.foldl stepK A=A++L:=by
  intro L
  induction L with
  |nil=>intro A _;simp
  |cons p L ih=>
   intro A h
   have hst:stepK A p=A++[p]:=by
    have hp:posGo (A.map (·.1)) p.1 A.length=A.length:=by
     cases hA:A.length with
     |zero=>rfl
     |succ n=>
      rw[posGo,if_neg];rw[List.getElem?_map,List.getElem?_eq_getElem (by omega)];have:=(List.pairwise_append.1 h).2.2 A[n] (List.getElem_mem _) p (by simp);simpa using this
    unfold stepK;rw[hp,List.take_length,List.drop_length,List.append_nil]
   rw[List.foldl_cons,hst,ih _ (by rw[List.append_assoc];exact h),List.append_assoc];rfl
 have:=main L [] h;rwa[List.nil_append]at this
theorem beg2' {c d:UInt8} (hc:192≤c.toNat∧c.toNat<224) (hd:128≤d.toNat∧d.toNat≤191) (hm:128≤64*(c.toNat-192)+d.toNat-128):beginsV [c]=2∧beginsV [c,d]=2:=by
 refine⟨?_,?_⟩
 ·show begN c.toNat []=2
  rw[begN2 hc]
  show begOk 2 (64*(c.toNat-192)) (64*(c.toNat-192)+63)=2
  exact begOk_yes (by rw[least2];omega)
 ·show begN c.toNat [d]=2
  rw[begN2 hc,begGo_yes (by omega)];exact begOk_yes (by rw[least2];omega)
theorem beg3' {c d e:UInt8} (hc:224≤c.toNat∧c.toNat<240) (hd:128≤d.toNat∧d.toNat≤191) (he:128≤e.toNat∧e.toNat≤191) (n:Nat) (hn:n=4096*(c.toNat-224)+64*(d.toNat-128)+(e.toNat-128)) (hm:2048≤n) (hv:n<55296∨(57344≤n∧n≤1114111)):beginsV [c]=3∧beginsV [c,d,e]=3:=by
 refine⟨?_,?_⟩
 ·show begN c.toNat []=3
  rw[begN3 hc]
  show begOk 3 (64*(64*(c.toNat-224))) (64*(64*(c.toNat-224)+63)+63)=3
  exact begOk_yes (by rw[least3];omega)
 ·show begN c.toNat [d,e]=3
  rw[begN3 hc,begGo_yes (by omega),begGo_yes (by omega)];exact begOk_yes (by rw[least3];omega)
theorem beg4' {c d e g:UInt8} (hc:240≤c.toNat∧c.toNat<248) (hd:128≤d.toNat∧d.toNat≤191) (he:128≤e.toNat∧e.toNat≤191) (hg:128≤g.toNat∧g.toNat≤191) (n:Nat) (hn:n=262144*(c.toNat-240)+4096*(d.toNat-128)+64*(e.toNat-128)+(g.toNat-128)) (hm:65536≤n) (hv:n≤1114111):beginsV [c]=4∧beginsV [c,d,e,g]=4:=by
 refine⟨?_,?_⟩
 ·show begN c.toNat []=4
  rw[begN4 hc]
  show begOk 4 (64*(64*(64*(c.toNat-240)))) (64*(64*(64*(c.toNat-240)+63)+63)+63)=4
  exact begOk_yes (by rw[least4];omega)
 ·show begN c.toNat [d,e,g]=4
  rw[begN4 hc,begGo_yes (by omega),begGo_yes (by omega),begGo_yes (by omega)];exact begOk_yes (by rw[least4];omega)
theorem uGo_step {c:UInt8} {r:List UInt8} {k:Nat} (f:Nat) (hc:128≤c.toNat) (h0:0<k) (hk:k≤r.length+1) (h1:beginsV [c]=k) (h2:beginsV ((c::r).take k)=k):uGo (f+1) (c::r)=uGo f ((c::r).drop k):=by
 rw[uGo,if_neg (by omega),h1,h2,if_neg (by simp;omega),if_neg (by omega)]
theorem u_step (f:Nat) (c:UInt8) (r:List UInt8) (h:¬((Lib.decodeL (c::r)).1=65533∧(Lib.decodeL (c::r)).2=1)):uGo (f+1) (c::r)=uGo f ((c::r).drop (Lib.decodeL (c::r)).2):=by
 obtain⟨D,hD⟩:∃D,Lib.decodeL (c::r)=D:=⟨_,rfl⟩;rw[hD]at h ⊢;have hD:Utf8.decode (ofL (c::r)) 0=D:=hD;have hs:=ofL_size (c::r);have g0:=(get_drop (l:=c::r) (k:=0) (j:=0) (r:=c::r) rfl rfl).2;unfold Utf8.decode at hD;rw[Nat.add_zero]at g0;simp only[Nat.add_zero,hs,g0]at hD;split at hD
 ·rename_i hc
  subst hD;rw[uGo,if_pos hc];rfl
 ·rename_i hc
  split at hD
  ·rename_i h2
   match r,h2,hD with
   |[],h2,_=>simp at h2
   |d::r,h2,hD=>
    have g1:=(get_drop (l:=c::d::r) (k:=0) (j:=1) (r:=c::d::r) rfl rfl).2;simp only[g1]at h2 hD;simp at h2;split at hD
    ·subst hD
     obtain⟨b1,b2⟩:=beg2' (c:=c) (d:=d) (by omega) (by omega) (by omega);exact uGo_step f (by omega) (by omega) (by simp) b1 b2
    ·subst hD;exact absurd ⟨rfl,rfl⟩ h
  ·split at hD
   ·rename_i h3
    match r,h3,hD with
    |[],h3,_=>simp at h3
    |[_],h3,_=>simp at h3
    |d::e::r,h3,hD=>
     have g1:=(get_drop (l:=c::d::e::r) (k:=0) (j:=1) (r:=c::d::e::r) rfl rfl).2;have g2:=(get_drop (l:=c::d::e::r) (k:=0) (j:=2) (r:=c::d::e::r) rfl rfl).2;simp only[g1,g2]at h3 hD;simp at h3;split at hD
     ·rename_i hv
      subst hD;simp[Utf8.valid]at hv;obtain⟨b1,b2⟩:=beg3' (c:=c) (d:=d) (e:=e) (by omega) (by omega) (by omega) _ rfl (by omega) (by omega);exact uGo_step f (by omega) (by omega) (by simp) b1 b2
     ·subst hD;exact absurd ⟨rfl,rfl⟩ h
   ·split at hD
    ·rename_i h4
     have h4l:3<r.length+1:=by
      simp only[Bool.and_eq_true,decide_eq_true_eq,List.length_cons]at h4;omega
     obtain⟨d,e,g,r',hr⟩:∃d e g r',r=d::e::g::r':=by
      rcases r with _|⟨d,_|⟨e,_|⟨g,r⟩⟩⟩
      ·simp at h4l
      ·simp at h4l
      ·simp at h4l
      ·exact⟨d,e,g,r,rfl⟩
     subst hr
     rename List UInt8=>r
     have g1:=(get_drop (l:=c::d::e::g::r) (k:=0) (j:=1) (r:=c::d::e::g::r) rfl rfl).2;have g2:=(get_drop (l:=c::d::e::g::r) (k:=0) (j:=2) (r:=c::d::e::g::r) rfl rfl).2;have g3:=(get_drop (l:=c::d::e::g::r) (k:=0) (j:=3) (r:=c::d::e::g::r) rfl rfl).2;simp only[g1,g2,g3]at h4 hD;simp at h4;split at hD
     ·rename_i hv
      subst hD;simp[Utf8.valid]at hv;obtain⟨b1,b2⟩:=beg4' (c:=c) (d:=d) (e:=e) (g:=g) (by omega) (by omega) (by omega) (by omega) _ rfl (by omega) (by omega);exact uGo_step f (by omega) (by omega) (by simp) b1 b2
     ·subst hD;exact absurd ⟨rfl,rfl⟩ h
    ·subst hD;exact absurd ⟨rfl,rfl⟩ h
theorem u_stop (f:Nat) (c:UInt8) (r:List UInt8) (h:(Lib.decodeL (c::r)).1=65533∧(Lib.decodeL (c::r)).2=1):uGo (f+1) (c::r)=false:=by
 by_cases hu:uGo (f+1) (c::r)=true
 ·obtain⟨n,x,hC,-⟩:=u_char (c::r) 0 f c r rfl hu
  have hD:Utf8.decode (ofL (c::r)) 0=Lib.decodeL (c::r):=rfl;have h1:=hC.de;rw[hD]at h1;rw[h1]at h;obtain⟨rfl,rfl⟩:=h;have h2:=congrArg List.length hC.en;simp[encR]at h2
 ·simpa using hu
theorem valid_isU (l:List UInt8):Lib.validD l=isU l:=by
 have main:∀n:Nat,∀l:List UInt8,l.length≤n→Lib.validD l=uGo n l:=by
  intro n
  induction n with
  |zero=>
   intro l hl;have:l=[]:=List.eq_nil_of_length_eq_zero (by omega);subst this;rfl
  |succ n ih=>
   intro l hl;cases l with
   |nil=>rfl
   |cons c r=>
    rw[Lib.validD_step _ (by simp)];have hw:=Lib.decodeL_width (c::r);by_cases h:(Lib.decodeL (c::r)).1=65533∧(Lib.decodeL (c::r)).2=1
    ·rw[if_pos h,u_stop n c r h]
    ·rw[if_neg h,u_step n c r h]
     refine ih _ ?_;rw[List.length_drop];simp only[List.length_cons]at hl ⊢;omega
 exact main l.length l (Nat.le_refl _)
theorem uGo_append (f:Nat) (a b:List UInt8) (ha:uGo f a=true) (hl:a.length≤f) (hb:isU b=true):isU (a++b)=true:=by
 have main:∀f a g,uGo f a=true→a.length≤f→a.length+b.length≤g→uGo g (a++b)=true:=by
  intro f
  induction f with
  |zero=>
   intro a g _ h1 h2;have:a=[]:=List.eq_nil_of_length_eq_zero (by omega);subst this;rw[List.nil_append,uGo_up g b.length b (by simpa using h2) (Nat.le_refl _)];exact hb
  |succ f ih=>
   intro a g h0 h1 h2;cases a with
   |nil=>
    rw[List.nil_append,uGo_up g b.length b (by simpa using h2) (Nat.le_refl _)];exact hb
   |cons c r=>
    simp only[List.length_cons]at h1 h2;obtain⟨g,rfl⟩:∃g',g=g'+1:=⟨g-1,by omega⟩;rw[uGo]at h0;rw[List.cons_append,uGo];by_cases hc:c.toNat<128
    ·rw[if_pos hc]at h0 ⊢
     exact ih r g h0 (by omega) (by omega)
    ·rw[if_neg hc]at h0 ⊢
     by_cases k0:beginsV [c]=0∨(c::r).length<beginsV [c]
     ·rw[if_pos k0]at h0;cases h0
     ·rw[if_neg k0]at h0
      simp only[List.length_cons]at k0;have hk:beginsV [c]≤r.length+1:=by omega
      rw[if_neg (by simp only[List.length_cons,List.length_append];omega)]
      have ht:(c::(r++b)).take (beginsV [c])=(c::r).take (beginsV [c]):=by
       rw[←List.cons_append,List.take_append_of_le_length (by simpa using hk)]
      rw[ht];by_cases k1:beginsV ((c::r).take (beginsV [c]))=0
      ·rw[if_pos k1]at h0;cases h0
      ·rw[if_neg k1]at h0 ⊢
       have hle:beginsV ((c::r).take (beginsV [c]))≤r.length+1:=by
        obtain⟨m,hm⟩:∃m,beginsV [c]=m+1:=⟨beginsV [c]-1,by omega⟩;rw[hm,List.take_succ_cons];rcases begins_or c (r.take m)with h|h
        ·omega
        ·rw[h]
         rcases begins_or c []with h'|h'
         ·omega
         ·omega
       have hd:(c::(r++b)).drop (beginsV ((c::r).take (beginsV [c])))=(c::r).drop (beginsV ((c::r).take (beginsV [c])))++b:=by
        rw[←List.cons_append,List.drop_append_of_le_length (by simpa using hle)]
       rw[hd];refine ih _ g h0 ?_ ?_
       ·rw[List.length_drop,List.length_cons];omega
       ·rw[List.length_drop,List.length_cons];omega
 exact main f a (a++b).length ha hl (by simp)
theorem isU_append {a b:List UInt8} (ha:isU a=true) (hb:isU b=true):isU (a++b)=true:=uGo_append a.length a b ha (Nat.le_refl _) hb
theorem isU_one {c:UInt8} (h:c.toNat<128):isU [c]=true:=by
 show uGo 1 [c]=true
 rw[uGo,if_pos h];rfl
theorem isU_char {c:UInt8} {r:List UInt8} (hc:128≤c.toNat) (h1:beginsV [c]=r.length+1) (h2:beginsV (c::r)=r.length+1):isU (c::r)=true:=by
 have ht:(c::r).take (r.length+1)=c::r:=List.take_of_length_le (by simp)
 show uGo (r.length+1) (c::r)=true
 rw[uGo_step (k:=r.length+1) r.length hc (by omega) (Nat.le_refl _) h1 (by rw[ht];exact h2),List.drop_of_length_le (by simp)];cases r.length<;>rfl
theorem u8_lt {n:Nat} (h:n<256):(UInt8.ofNat n).toNat=n:=UInt8.toNat_ofNat_of_lt' h
theorem isU_enc {n:Nat} (h:n<55296∨(57344≤n∧n≤1114111)):isU (encR n)=true:=by
 unfold encR;split
 ·exact isU_one (by rw[u8_lt (by omega)];assumption)
 ·split
  ·have e1:=u8_lt (n:=192+n/64) (by omega)
   have e2:=u8_lt (n:=128+n % 64) (by omega);obtain⟨b1,b2⟩:=beg2' (c:=UInt8.ofNat (192+n/64)) (d:=UInt8.ofNat (128+n % 64)) (by omega) (by omega) (by omega);exact isU_char (by omega) b1 b2
  ·split
   ·have e1:=u8_lt (n:=224+n/4096) (by omega)
    have e2:=u8_lt (n:=128+n/64 % 64) (by omega);have e3:=u8_lt (n:=128+n % 64) (by omega);obtain⟨b1,b2⟩:=beg3' (c:=UInt8.ofNat (224+n/4096)) (d:=UInt8.ofNat (128+n/64 % 64)) (e:=UInt8.ofNat (128+n % 64)) (by omega) (by omega) (by omega) n (by omega) (by omega) (by omega);exact isU_char (by omega) b1 b2
   ·have e1:=u8_lt (n:=240+n/262144) (by omega)
    have e2:=u8_lt (n:=128+n/4096 % 64) (by omega);have e3:=u8_lt (n:=128+n/64 % 64) (by omega);have e4:=u8_lt (n:=128+n % 64) (by omega);obtain⟨b1,b2⟩:=beg4' (c:=UInt8.ofNat (240+n/262144)) (d:=UInt8.ofNat (128+n/4096 % 64)) (e:=UInt8.ofNat (128+n/64 % 64)) (g:=UInt8.ofNat (128+n % 64)) (by omega) (by omega) (by omega) (by omega) n (by omega) (by omega) (by omega);exact isU_char (by omega) b1 b2
theorem charGo_ok (p r s q:List UInt8) (h:charGo p r=.ok s q):∃x,x≠[]∧s=p++x∧r=x++q∧s.length=beginsV s:=by
 induction r generalizing p with
 |nil=>cases h
 |cons c r ih=>
  rw[charGo_cons]at h;split at h
  ·cases h
  ·split at h
   ·rename_i hl
    cases h;exact⟨[c],by simp,rfl,rfl,hl⟩
   ·obtain⟨x,hx,e1,e2,e3⟩:=ih _ h
    exact⟨c::x,by simp,by rw[e1,List.append_assoc];rfl,by rw[e2];rfl,e3⟩
theorem char_good {c:UInt8} {r s q:List UInt8} (hc:128≤c.toNat) (h:charGo [] (c::r)=.ok s q):isU s=true∧q.length<(c::r).length:=by
 have h0:=h;obtain⟨x,hx,e1,e2,e3⟩:=charGo_ok _ _ _ _ h0;rw[List.nil_append]at e1;subst e1;rw[charGo_cons]at h;cases s with
 |nil=>exact absurd rfl hx
 |cons y s=>
  have hy:y=c:=by injection e2 with e _;exact e.symm
  subst hy;refine⟨?_,by rw[e2];simp;omega⟩;split at h
  ·cases h
  ·rename_i hb
   have hb1:beginsV [y]≠0:=hb;refine isU_char hc ?_ e3.symm;rcases begins_or y []with h1|h1
   ·exact absurd h1 hb1
   ·rw[h1]
    rcases begins_or y s with h2|h2
    ·rw[h2]at e3;simp at e3
    ·rw[←h2,←e3];rfl
theorem unit_ok (low:Bool) (k n:Nat) (r q:List UInt8) (m:Nat) (h:unitGo low k n r=.ok m q):q.length≤r.length:=by
 induction k generalizing n r with
 |zero=>cases h;exact Nat.le_refl _
 |succ k ih=>
  cases r with
  |nil=>cases h
  |cons c r=>
   rw[unitGo]at h;split at h
   ·cases h
   ·split at h
    ·cases h
    ·split at h
     ·cases h
     ·have:=ih _ _ h
      simp only[List.length_cons];omega
theorem unit_rng (low:Bool) (r q:List UInt8) (m:Nat) (h:unitGo low 4 0 r=.ok m q):m<65536∧(low=false→¬(56320≤m∧m<57344))∧(low=true→56320≤m∧m<57344):=by
 match r,h with
 |[],h=>cases h
 |c1::r,h=>
  rw[unitGo]at h;cases h1:hexV c1 with
  |none=>rw[h1]at h;cases h
  |some a=>
   rw[h1]at h;simp only at h;have l1:=hexV_lt h1;split at h
   ·cases h
   rename_i n1
   split at h
   ·cases h
   match r,h with
   |[],h=>cases h
   |c2::r,h=>
    rw[unitGo]at h;cases h2:hexV c2 with
    |none=>rw[h2]at h;cases h
    |some b=>
     rw[h2]at h;simp only at h;have l2:=hexV_lt h2;split at h
     ·cases h
     rename_i n2
     split at h
     ·cases h
     rename_i n3
     match r,h with
     |[],h=>cases h
     |c3::r,h=>
      rw[unitGo]at h;cases h3:hexV c3 with
      |none=>rw[h3]at h;cases h
      |some d=>
       rw[h3]at h;simp only at h;have l3:=hexV_lt h3;split at h
       ·cases h
       split at h
       ·cases h
       match r,h with
       |[],h=>cases h
       |c4::r,h=>
        rw[unitGo]at h;cases h4:hexV c4 with
        |none=>rw[h4]at h;cases h
        |some e=>
         rw[h4]at h;simp only at h;have l4:=hexV_lt h4;split at h
         ·cases h
         split at h
         ·cases h
         rw[unitGo]at h;cases h;refine⟨by omega,fun hl=>?_,fun hl=>?_⟩
         ·have:¬(220≤16*(16*0+a)+b∧16*(16*0+a)+b<224):=fun hh=>n3 ⟨hl,trivial,hh⟩
          omega
         ·have g1:=fun hh=>n1 ⟨hl,.inl ⟨trivial,hh⟩⟩
          have g2:¬(16*(16*0+a)+b<220):=fun hh=>n2 ⟨hl,.inr ⟨trivial,hh⟩⟩
          simp only[Nat.mul_zero,Nat.zero_add]at g1 g2 ⊢;have ha:a=13:=Classical.byContradiction fun hne=>g1 hne
          subst ha;omega
theorem escV_lt {c x:UInt8} (h:escV c=some x):x.toNat<128:=by
 unfold escV at h;split at h
 ·rename_i hc
  cases h;rcases hc with rfl|rfl|rfl<;>decide
 ·repeat (first|(split at h;·cases h;decide)|cases h)
theorem esc_good {r s q:List UInt8} (h:escOut r=.ok s q):isU s=true∧q.length<r.length:=by
 cases r with
 |nil=>cases h
 |cons c r=>
  rw[escOut]at h;cases he:escV c with
  |some x=>
   rw[he]at h;cases h;exact⟨isU_one (escV_lt he),by simp⟩
  |none=>
   rw[he]at h;simp only at h;split at h
   ·cases h
   ·cases hu:unitGo false 4 0 r with
    |wrong e q=>rw[hu]at h;cases h
    |ended=>rw[hu]at h;cases h
    |ok n q1=>
     rw[hu]at h;simp only at h;obtain⟨r1,r2,-⟩:=unit_rng _ _ _ _ hu;have r2:=r2 rfl;have hq:=unit_ok _ _ _ _ _ _ hu;split at h
     ·cases h
      exact⟨isU_enc (by omega),by simp only[List.length_cons];omega⟩
     ·rename_i hs
      cases q1 with
      |nil=>cases h
      |cons c1 q1=>
       unfold pairOut at h;split at h
       ·cases h
       ·cases q1 with
        |nil=>cases h
        |cons c2 q2=>
         simp only at h;split at h
         ·cases h
         ·cases hv:unitGo true 4 0 q2 with
          |wrong e q=>rw[hv]at h;cases h
          |ended=>rw[hv]at h;cases h
          |ok m q3=>
           rw[hv]at h;obtain⟨_,-,r3⟩:=unit_rng _ _ _ _ hv;simp only[RO.ok.injEq]at h;obtain⟨h1,h2⟩:=h;rw[←h1,←h2];clear h1 h2;have r3:=r3 rfl;have hq3:=unit_ok _ _ _ _ _ _ hv;simp only[List.length_cons]at hq ⊢;exact⟨isU_enc (by omega),by omega⟩
theorem text_good (n:Nat):∀(r:List UInt8) (out:List UInt8) (t:Tr) (s q:List UInt8),r.length≤n→Tx0 out t→isU out=true→trRun t r=.ok s q→isU s=true:=by
 induction n with
 |zero=>
  intro r out t s q hl _ _ h;have:r=[]:=List.eq_nil_of_length_eq_zero (by omega);subst this;cases h
 |succ n ih=>
  intro r out t s q hl hT hU h;cases r with
  |nil=>cases h
  |cons c r=>
   simp only[List.length_cons]at hl;by_cases h92:c=92
   ·subst h92
    have hr:=esc_run out t hT r;cases he:escOut r with
    |wrong e p=>rw[he]at hr;simp only at hr;rw[hr]at h;cases h
    |ended=>rw[he]at hr;simp only at hr;rw[hr]at h;cases h
    |ok s' q'=>
     rw[he]at hr;simp only at hr;obtain⟨t',hT',e⟩:=hr;obtain⟨g1,g2⟩:=esc_good he;rw[e]at h;exact ih q' _ t' s q (by omega) hT' (isU_append hU g1) h
   ·by_cases hc:128≤c.toNat
    ·have hr:=char_run out t hT c hc r
     cases he:charGo [] (c::r)with
     |wrong e p=>rw[he]at hr;simp only at hr;rw[hr]at h;cases h
     |ended=>rw[he]at hr;simp only at hr;rw[hr]at h;cases h
     |ok s' q'=>
      rw[he]at hr;simp only at hr;obtain⟨t',hT',e⟩:=hr;obtain⟨g1,g2⟩:=char_good hc he;rw[e]at h;simp only[List.length_cons]at g2;exact ih q' _ t' s q (by omega) hT' (isU_append hU g1) h
    ·obtain⟨hst,hm,hh⟩:=hT
     rw[trRun,trNext0 hst,trChar,if_neg h92,if_neg (by omega)]at h;by_cases h34:c=34
     ·rw[if_pos h34]at h
      cases h;rw[hm];exact hU
     ·rw[if_neg h34]at h
      by_cases h32:c.toNat<32
      ·rw[if_pos h32]at h;cases h
      ·rw[if_neg h32,if_pos (by omega)]at h
       simp only at h;exact ih r (out++[c]) ⟨t.st,t.made++[c],t.lack,t.lo,t.hi,t.dg,t.code,t.high⟩ s q (by omega) ⟨hst,by show t.made++[c]=_;rw[hm],hh⟩ (isU_append hU (isU_one (by omega))) h
theorem read_text {r s q:List UInt8} (h:trRun tr0 r=.ok s q):isU s=true:=text_good r.length r [] tr0 s q (Nat.le_refl _) ⟨rfl,rfl,rfl⟩ rfl h
end Go.Proofs.YtmkkibaacclhnaaGreatDoor
