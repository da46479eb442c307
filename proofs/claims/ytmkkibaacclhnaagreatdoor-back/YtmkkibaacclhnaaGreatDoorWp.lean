/-
  A step of the walk, the part named Wp. No theorem of the row.
-/
import Derived.Test.YtmkkibaacclhnaaGreatDoorWg
import Derived.BigQuiet
import Derived.Test.YtmkkibaacclhnaaGreatDoorWd
import Derived.Test.YtmkkibaacclhnaaGreatDoorRe
namespace Go.Proofs.YtmkkibaacclhnaaGreatDoor
open Go.RowKit
set_option maxRecDepth 100000
set_option maxHeartbeats 16000000
theorem merges_all (w0:World) (blk n cap bx:Nat) (D:Nat→Prop) (cf:Nat→Nat→Int) (R:Nat→Nat→Prop) (tr:∀x y z,R x y→R y z→R x z) (hC:CmpAt w0 blk #[.pointer (some ⟨bx,0,none⟩)] D cf) (hn:n≤10000000) (f:Nat):Merges w0 blk n cap bx D cf R f:=by
 induction f with
 |zero=>
  intro w a m b X A B Y hf h hX hm hb hA hB;omega
 |succ f ih=>
  intro w a m b X A B Y hf h hX hm hb hA hB pA pB hCf hD;by_cases hA1:A.length=1
  ·obtain⟨x0,rfl⟩:=List.length_eq_one_iff.1 hA1
   exact merge_first w0 w blk n cap a m b bx D cf R tr X B Y x0 h hX hm hb pB (fun y hy=>hCf x0 (by simp) y hy) (hD x0 (by simp)) (fun x hx=>hD x (by simp[hx])) hC hn
  ·by_cases hB1:B.length=1
   ·obtain⟨y0,rfl⟩:=List.length_eq_one_iff.1 hB1
    exact merge_last w0 w blk n cap a m b bx D cf R tr X A Y y0 h hX (by omega) hm hb pA (fun x hx=>hCf x hx y0 (by simp)) (hD y0 (by simp)) (fun x hx=>hD x (by simp[hx])) hC hn
   ·by_cases hmm:(a+b)/2<m
    ·exact merge_mid_hi w0 w blk n cap a m b bx _ f D cf R tr ih hf X A B Y h hX (by omega) (by omega) hm hb rfl hmm pA pB hCf hD hC hn
    ·exact merge_mid_lo w0 w blk n cap a m b bx _ f D cf R tr ih hf X A B Y h hX (by omega) (by omega) hm hb rfl hmm pA pB hCf hD hC hn
abbrev Bks:=List (List Nat×List Nat)
def cat (l:Bks):List Nat:=(l.map (·.1)).flatten
def cato (l:Bks):List Nat:=(l.map (·.2)).flatten
theorem cat_append (a b:Bks):cat (a++b)=cat a++cat b:=by simp[cat]
theorem cato_append (a b:Bks):cato (a++b)=cato a++cato b:=by simp[cato]
theorem cat_one (p:List Nat×List Nat):cat [p]=p.1:=by simp[cat]
theorem cato_one (p:List Nat×List Nat):cato [p]=p.2:=by simp[cato]
theorem cat_cons (p:List Nat×List Nat) (l:Bks):cat (p::l)=p.1++cat l:=rfl
theorem cato_cons (p:List Nat×List Nat) (l:Bks):cato (p::l)=p.2++cato l:=rfl
def OkB (R:Nat→Nat→Prop) (l:Bks):Prop:=∀p,p∈l→p.1.Perm p.2∧p.1.Pairwise R
def Full (s:Nat):Bks→Prop
 |[]=>True
 |[p]=>p.1.length≤s
 |p::q::r=>p.1.length=s∧Full s (q::r)
def Whole (s:Nat) (l:Bks):Prop:=∀p,p∈l→p.1.length=s
theorem Full.of_whole {s:Nat} {l:Bks} (h:Whole s l) (p:List Nat×List Nat) (hp:p.1.length≤s):Full s (l++[p]):=by
 induction l with
 |nil=>exact hp
 |cons q l ih=>
  have h1:=ih (fun x hx=>h x (by simp[hx]));cases l with
  |nil=>exact⟨h q (by simp),h1⟩
  |cons r l=>exact⟨h q (by simp),h1⟩
theorem Full.of_whole' {s:Nat} {l:Bks} (h:Whole s l):Full s l:=by
 induction l with
 |nil=>trivial
 |cons q l ih=>
  have h1:=ih (fun x hx=>h x (by simp[hx]));cases l with
  |nil=>exact Nat.le_of_eq (h q (by simp))
  |cons r l=>exact⟨h q (by simp),h1⟩
theorem Full.tail {s:Nat} {p:List Nat×List Nat} {l:Bks} (h:Full s (p::l)):Full s l:=by
 cases l with
 |nil=>trivial
 |cons q l=>exact h.2
theorem Full.one {R:Nat→Nat→Prop} {s:Nat} {l:Bks} (h:Full s l) (ho:OkB R l) (hs:(cat l).length≤s) (h0:0<s):(cat l).Perm (cato l)∧(cat l).Pairwise R:=by
 match l,h with
 |[],_=>exact⟨List.Perm.refl _,List.Pairwise.nil⟩
 |[p],_=>
  rw[cat_one,cato_one];exact ho p (by simp)
 |p::q::r,h=>
  have h1:=h.1;rw[cat_cons,List.length_append]at hs;have h2:(cat (q::r)).length=0:=by omega
  have hq:=ho q (by simp)
  have h3:q.1=[]:=by
   rw[cat_cons,List.length_append]at h2;exact List.eq_nil_of_length_eq_zero (by omega)
  have hr:r=[]:=by
   cases r with
   |nil=>rfl
   |cons t r=>
    have h4:=h.2.1;rw[h3]at h4;simp at h4;omega
  subst hr
  have h5:q.2=[]:=by
   have:=hq.1.length_eq;rw[h3]at this;exact List.eq_nil_of_length_eq_zero this.symm
  have hp:=ho p (by simp);rw[cat_cons,cato_cons,cat_one,cato_one,h3,h5,List.append_nil,List.append_nil];exact hp
structure InsAt (w0 w:World) (blk n cap:Nat) (R:Nat→Nat→Prop) (zs:List Nat) (a:Nat) (done:Bks) (Zr:List Nat):Prop where
 z:zs=cato done++Zr
 la:(cat done).length=a
 wh:Whole 20 done
 ok:OkB R done
 d:DR w0 w blk n cap (cat done++Zr)
structure MgAt (w0 w:World) (blk n cap:Nat) (R:Nat→Nat→Prop) (zs:List Nat) (s a:Nat) (done rest:Bks):Prop where
 z:zs=cato done++cato rest
 la:(cat done).length=a
 wh:Whole (2*s) done
 ok:OkB R done
 fu:Full s rest
 ok2:OkB R rest
 d:DR w0 w blk n cap (cat done++cat rest)
structure PtAt (w0 w:World) (blk n cap:Nat) (R:Nat→Nat→Prop) (zs:List Nat) (s:Nat) (l:Bks):Prop where
 z:zs=cato l
 fu:Full s l
 ok:OkB R l
 d:DR w0 w blk n cap (cat l)
theorem OkB.snoc {R:Nat→Nat→Prop} {l:Bks} (h:OkB R l) {p:List Nat×List Nat} (h1:p.1.Perm p.2) (h2:p.1.Pairwise R):OkB R (l++[p]):=by
 intro q hq;rcases List.mem_append.1 hq with hq|hq
 ·exact h q hq
 ·simp at hq;subst hq;exact⟨h1,h2⟩
theorem Whole.snoc {s:Nat} {l:Bks} (h:Whole s l) {p:List Nat×List Nat} (h1:p.1.length=s):Whole s (l++[p]):=by
 intro q hq;rcases List.mem_append.1 hq with hq|hq
 ·exact h q hq
 ·simp at hq;subst hq;exact h1
section
variable {w0 w:World} {blk n cap bx:Nat} {D:Nat→Prop} {cf:Nat→Nat→Int} {R:Nat→Nat→Prop} {zs:List Nat}
theorem InsAt.next (tr:∀x y z,R x y→R y z→R x z) (hC:CmpAt w0 blk #[.pointer (some ⟨bx,0,none⟩)] D cf) (hn:n≤10000000) (hz:zs.Pairwise (Cf cf R)) (hD:∀x,x∈zs→D x) {a b:Nat} {done:Bks} {Zr:List Nat} (h:InsAt w0 w blk n cap R zs a done Zr) (hb:a+20=b) (hbn:b≤n):
 Calls Tryz.prog 202 #[.slice (some ⟨blk,0,none⟩) n cap,.int .i64 (a:Int),.int .i64 (b:Int),.func (.func 129) #[] #[.pointer (some ⟨bx,0,none⟩)]] w fun e w'=>e=.returned (.tuple #[])∧∃done' Zr',InsAt w0 w' blk n cap R zs b done' Zr':=by
 have hl:=h.d.len;rw[List.length_append,h.la]at hl;obtain⟨Z,Y,rfl,hZ⟩:=cut_at Zr 20 (by omega);have hd:DR w0 w blk n cap (cat done++Z++Y):=by simpa using h.d
 have hz2:=hz;rw[h.z,List.pairwise_append,List.pairwise_append]at hz2;refine(insertion_any w0 w blk n cap a b bx D cf R tr (cat done) Z Y hd h.la (by omega) hz2.2.1.1 (fun x hx=>hD x (by rw[h.z];simp[hx])) hC hn).mono ?_;rintro e w' ⟨he,Z',p1,p2,hd'⟩;refine⟨he,done++[(Z',Z)],Y,?_,?_,h.wh.snoc (by rw[p1.length_eq];exact hZ),h.ok.snoc p1 p2,?_⟩
 ·rw[cato_append,cato_one,h.z];simp
 ·rw[cat_append,cat_one,List.length_append,h.la,p1.length_eq];omega
 ·rw[cat_append,cat_one];exact hd'
theorem InsAt.last (tr:∀x y z,R x y→R y z→R x z) (hC:CmpAt w0 blk #[.pointer (some ⟨bx,0,none⟩)] D cf) (hn:n≤10000000) (hz:zs.Pairwise (Cf cf R)) (hD:∀x,x∈zs→D x) {a:Nat} {done:Bks} {Zr:List Nat} (h:InsAt w0 w blk n cap R zs a done Zr) (hb:n<a+20):
 Calls Tryz.prog 202 #[.slice (some ⟨blk,0,none⟩) n cap,.int .i64 (a:Int),.int .i64 (n:Int),.func (.func 129) #[] #[.pointer (some ⟨bx,0,none⟩)]] w fun e w'=>e=.returned (.tuple #[])∧∃l,PtAt w0 w' blk n cap R zs 20 l:=by
 have hl:=h.d.len;rw[List.length_append,h.la]at hl;have hd:DR w0 w blk n cap (cat done++Zr++[]):=by simpa using h.d
 have hz2:=hz;rw[h.z,List.pairwise_append]at hz2;refine(insertion_any w0 w blk n cap a n bx D cf R tr (cat done) Zr [] hd h.la (by omega) hz2.2.1 (fun x hx=>hD x (by rw[h.z];simp[hx])) hC hn).mono ?_;rintro e w' ⟨he,Z',p1,p2,hd'⟩;refine⟨he,done++[(Z',Zr)],?_,Full.of_whole h.wh _ (by show Z'.length≤20;rw[p1.length_eq];omega),h.ok.snoc p1 p2,?_⟩
 ·rw[cato_append,cato_one,h.z]
 ·rw[cat_append,cat_one];simpa using hd'
theorem MgAt.next (tr:∀x y z,R x y→R y z→R x z) (hC:CmpAt w0 blk #[.pointer (some ⟨bx,0,none⟩)] D cf) (hn:n≤10000000) (hz:zs.Pairwise (Cf cf R)) (hD:∀x,x∈zs→D x) {s a b:Nat} {done rest:Bks} (h:MgAt w0 w blk n cap R zs s a done rest) (h0:0<s) (hb:a+2*s=b) (hbn:b≤n):
 Calls Tryz.prog 203 #[.slice (some ⟨blk,0,none⟩) n cap,.int .i64 (a:Int),.int .i64 ((a+s:Nat):Int),.int .i64 (b:Int),.func (.func 129) #[] #[.pointer (some ⟨bx,0,none⟩)]] w fun e w'=>e=.returned (.tuple #[])∧∃done' rest',MgAt w0 w' blk n cap R zs s b done' rest':=by
 obtain⟨h1,h2,h3,h4,h5,h6,h7⟩:=h;have hl:=h7.len;rw[List.length_append,h2]at hl
 match rest,h5 with
 |[],_=>simp[cat]at hl;omega
 |[p],h5=>
  have h5:p.1.length≤s:=h5;rw[cat_one]at hl;omega
 |p::q::r,h5=>
  rw[cat_cons,cat_cons,List.length_append,List.length_append]at hl;have hp:p.1.length=s:=h5.1
  have hq:q.1.length=s:=by
   cases r with
   |nil=>
    have h8:q.1.length≤s:=h5.2;simp[cat]at hl;omega
   |cons t r=>exact h5.2.1
  have op:=h6 p (by simp);have oq:=h6 q (by simp);have hd:DR w0 w blk n cap (cat done++p.1++q.1++cat r):=by rw[cat_cons,cat_cons]at h7;simpa using h7
  have hz2:=hz;rw[h1,cato_cons,cato_cons,List.pairwise_append,List.pairwise_append]at hz2;have hcf:∀x,x∈p.1→∀y,y∈q.1→Cf cf R x y:=fun x hx y hy=>hz2.2.1.2.2 x (op.1.mem_iff.1 hx) y (by simp[oq.1.mem_iff.1 hy])
  have hdm:∀x,x∈p.1++q.1→D x:=fun x hx=>hD x (by
   rw[h1,cato_cons,cato_cons];rcases List.mem_append.1 hx with hx|hx
   ·simp[op.1.mem_iff.1 hx]
   ·simp[oq.1.mem_iff.1 hx])
  refine(merges_all w0 blk n cap bx D cf R tr hC hn (b-a) w a (a+s) b (cat done) p.1 q.1 (cat r) (Nat.le_refl _) hd h2 (by omega) (by omega) (by omega) (by omega) op.2 oq.2 hcf hdm).mono ?_;rintro e w' ⟨he,Z,p1,p2,hd'⟩;refine⟨he,done++[(Z,p.2++q.2)],r,?_,?_,h3.snoc (by show Z.length=2*s;rw[p1.length_eq,List.length_append];omega),h4.snoc (p1.trans (op.1.append oq.1)) p2,h5.tail.tail,fun x hx=>h6 x (by simp[hx]),?_⟩
  ·rw[cato_append,cato_one,h1,cato_cons,cato_cons];simp
  ·rw[cat_append,cat_one,List.length_append,h2,p1.length_eq,List.length_append];omega
  ·rw[cat_append,cat_one];exact hd'
theorem MgAt.last (tr:∀x y z,R x y→R y z→R x z) (hC:CmpAt w0 blk #[.pointer (some ⟨bx,0,none⟩)] D cf) (hn:n≤10000000) (hz:zs.Pairwise (Cf cf R)) (hD:∀x,x∈zs→D x) {s a:Nat} {done rest:Bks} (h:MgAt w0 w blk n cap R zs s a done rest) (h0:0<s) (hb:n<a+2*s) (hm:a+s<n):
 Calls Tryz.prog 203 #[.slice (some ⟨blk,0,none⟩) n cap,.int .i64 (a:Int),.int .i64 ((a+s:Nat):Int),.int .i64 (n:Int),.func (.func 129) #[] #[.pointer (some ⟨bx,0,none⟩)]] w fun e w'=>e=.returned (.tuple #[])∧∃l,PtAt w0 w' blk n cap R zs (2*s) l:=by
 obtain⟨h1,h2,h3,h4,h5,h6,h7⟩:=h;have hl:=h7.len;rw[List.length_append,h2]at hl
 match rest,h5 with
 |[],_=>simp[cat]at hl;omega
 |[p],h5=>
  have h5:p.1.length≤s:=h5;rw[cat_one]at hl;omega
 |p::q::r,h5=>
  rw[cat_cons,cat_cons,List.length_append,List.length_append]at hl;have hp:p.1.length=s:=h5.1
  have hr:r=[]:=by
   cases r with
   |nil=>rfl
   |cons t r=>
    have h8:=h5.2.1;omega
  subst hr;simp[cat]at hl;have op:=h6 p (by simp);have oq:=h6 q (by simp);have hd:DR w0 w blk n cap (cat done++p.1++q.1++[]):=by rw[cat_cons,cat_one]at h7;simpa using h7
  have hz2:=hz;rw[h1,cato_cons,cato_one,List.pairwise_append,List.pairwise_append]at hz2;have hcf:∀x,x∈p.1→∀y,y∈q.1→Cf cf R x y:=fun x hx y hy=>hz2.2.1.2.2 x (op.1.mem_iff.1 hx) y (oq.1.mem_iff.1 hy)
  have hdm:∀x,x∈p.1++q.1→D x:=fun x hx=>hD x (by
   rw[h1,cato_cons,cato_one];rcases List.mem_append.1 hx with hx|hx
   ·simp[op.1.mem_iff.1 hx]
   ·simp[oq.1.mem_iff.1 hx])
  refine(merges_all w0 blk n cap bx D cf R tr hC hn (n-a) w a (a+s) n (cat done) p.1 q.1 [] (Nat.le_refl _) hd h2 (by omega) (by omega) (by omega) (by omega) op.2 oq.2 hcf hdm).mono ?_;rintro e w' ⟨he,Z,p1,p2,hd'⟩;refine⟨he,done++[(Z,p.2++q.2)],?_,Full.of_whole h3 _ (by show Z.length≤2*s;rw[p1.length_eq,List.length_append];omega),h4.snoc (p1.trans (op.1.append oq.1)) p2,?_⟩
  ·rw[cato_append,cato_one,h1,cato_cons,cato_one]
  ·rw[cat_append,cat_one];simpa using hd'
theorem MgAt.none {s a:Nat} {done rest:Bks} (h:MgAt w0 w blk n cap R zs s a done rest) (h0:0<s) (hb:n<a+2*s) (hm:¬a+s<n):∃l,PtAt w0 w blk n cap R zs (2*s) l:=by
 obtain⟨h1,h2,h3,h4,h5,h6,h7⟩:=h;have hl:=h7.len;rw[List.length_append,h2]at hl
 match rest,h5 with
 |[],_=>exact⟨done,by simpa[cato]using h1,Full.of_whole' h3,h4,by simpa[cat]using h7⟩
 |[p],h5=>
  have h5:p.1.length≤s:=h5;exact⟨done++[p],by rw[cato_append];exact h1,Full.of_whole h3 p (by omega),h4.snoc (h6 p (by simp)).1 (h6 p (by simp)).2,by rw[cat_append];exact h7⟩
 |p::q::r,h5=>
  rw[cat_cons,cat_cons,List.length_append,List.length_append]at hl;have hp:p.1.length=s:=h5.1
  have hr:r=[]:=by
   cases r with
   |nil=>rfl
   |cons t r=>
    have h8:=h5.2.1;omega
  subst hr;have op:=h6 p (by simp);have oq:=h6 q (by simp);have hq1:q.1=[]:=List.eq_nil_of_length_eq_zero (by omega)
  have hq2:q.2=[]:=by
   have:=oq.1.length_eq;rw[hq1]at this;exact List.eq_nil_of_length_eq_zero this.symm
  refine⟨done++[p],?_,Full.of_whole h3 p (by omega),h4.snoc op.1 op.2,?_⟩
  ·rw[cato_append,cato_one,h1,cato_cons,cato_one,hq2,List.append_nil]
  ·rw[cat_append,cat_one]
   rw[cat_cons,cat_one,hq1,List.append_nil]at h7;exact h7
end
theorem PtAt.start {w0 w:World} {blk n cap:Nat} {R:Nat→Nat→Prop} {zs:List Nat} {s:Nat} {l:Bks} (h:PtAt w0 w blk n cap R zs s l):MgAt w0 w blk n cap R zs s 0 [] l:=
 ⟨h.z,rfl,fun p hp=>(by cases hp),fun p hp=>(by cases hp),h.fu,h.ok,h.d⟩
theorem stable_any (w0 w:World) (blk n cap bx:Nat) (D:Nat→Prop) (cf:Nat→Nat→Int) (R:Nat→Nat→Prop) (tr:∀x y z,R x y→R y z→R x z) (zs:List Nat) (h:DR w0 w blk n cap zs) (hz:zs.Pairwise (Cf cf R)) (hD:∀x,x∈zs→D x)
 (hC:CmpAt w0 blk #[.pointer (some ⟨bx,0,none⟩)] D cf) (hn:n≤10000000):
 Calls Tryz.prog 173 #[.slice (some ⟨blk,0,none⟩) n cap,.int .i64 (n:Int),.func (.func 129) #[] #[.pointer (some ⟨bx,0,none⟩)]] w fun e w'=>e=.returned (.tuple #[])∧∃Z,Z.Perm zs∧Z.Pairwise R∧DR w0 w' blk n cap Z:=by
 have H0:=hid (show InsAt w0 w blk n cap R zs 0 [] zs from⟨rfl,rfl,fun p hp=>(by cases hp),fun p hp=>(by cases hp),h⟩);have HI1:=hid (fun (w:World) (a b:Nat) (done:Bks) (Zr:List Nat) (h:InsAt w0 w blk n cap R zs a done Zr) (hb:a+20=b) (hbn:b≤n)=>h.next tr hC hn hz hD hb hbn);have HI2:=hid (fun (w:World) (a:Nat) (done:Bks) (Zr:List Nat) (h:InsAt w0 w blk n cap R zs a done Zr) (hb:n<a+20)=>h.last tr hC hn hz hD hb);have HM1:=hid (fun (w:World) (s a b:Nat) (done rest:Bks) (h:MgAt w0 w blk n cap R zs s a done rest) (h0:0<s) (hb:a+2*s=b) (hbn:b≤n)=>h.next tr hC hn hz hD h0 hb hbn);have HM2:=hid (fun (w:World) (s a:Nat) (done rest:Bks) (h:MgAt w0 w blk n cap R zs s a done rest) (h0:0<s) (hb:n<a+2*s) (hm:a+s<n)=>h.last tr hC hn hz hD h0 hb hm);clear h hz hD hC tr;go_enter Tryz.func173,Tryz.ntmps173;go_wp2
 go_loopw [7,8] (fun s t wr=>∃(a b:Nat) (done:Bks) (Zr:List Nat),a+20=b∧a≤n∧s=.int .i64 (a:Int)∧t=.int .i64 (b:Int)∧Hid (InsAt w0 wr blk n cap R zs a done Zr)) (fun s _ _=>n+1-(intOf s).toNat)
 case atStart=>exact⟨0,20,[],zs,by omega,by omega,by go_num,by go_num,H0⟩
 case round=>
  clear H0;obtain⟨a,b,done,Zr,hab,han,rfl,rfl,hI⟩:=hrel;by_cases hbn:b≤n
  ·have hbz:(b:Int)≤(n:Int):=by omega
   have H5:=hid (HI1.out wr a b done Zr hI.out hab hbn)
   go_wp2_with (first|(go_at_call 202;refine Calls.mono H5.out ?_;rintro x w2 ⟨rfl,done',Zr',hd⟩;have HD:=hid hd;clear hd)|fail)
   go_roundw
   case rel=>exact⟨b,b+20,done',Zr',by omega,by omega,rfl,by go_num,HD⟩
   case measure=>simp[intOf];omega
  ·have hbz:¬((b:Int)≤(n:Int)):=by omega
   have H5:=hid (HI2.out wr a done Zr hI.out (by omega));clear hI
   go_wp2_with (first|(go_at_call 202;refine Calls.mono H5.out ?_;rintro x w2 ⟨rfl,l,hd⟩;have HD:=hid hd;clear hd)|fail)
   clear H5 HI1 HI2
   go_loopw [6] (fun s wr=>∃(s0:Nat) (l:Bks),20≤s0∧s0≤40000000∧s=.int .i64 (s0:Int)∧Hid (PtAt w0 wr blk n cap R zs s0 l)) (fun s _=>n-(intOf s).toNat)
   case atStart=>exact⟨20,l,by omega,by omega,by go_num,HD⟩
   case round=>
    clear HD;obtain⟨s0,l,hs1,hs2,rfl,hP⟩:=hrel;by_cases hsn:s0<n
    ·have hsz:(s0:Int)<(n:Int):=by omega
     have H0:=hid hP.out.start;obtain⟨d,hd⟩:∃d,2*s0=d:=⟨_,rfl⟩;have hdz:2*(s0:Int)=(d:Int):=by omega
     have hdz2:(s0:Int)*2=(d:Int):=by omega
     have HDD:=hid hd;clear hP hd;go_wp2
     go_loopw [7,8] (fun s t wr=>∃(a b:Nat) (done rest:Bks),a+d=b∧a≤n∧s=.int .i64 (a:Int)∧t=.int .i64 (b:Int)∧Hid (MgAt w0 wr blk n cap R zs s0 a done rest)) (fun s _ _=>n+1-(intOf s).toNat)
     case atStart=>exact⟨0,d,[],l,by omega,by omega,by go_num,by go_num,H0⟩
     case round=>
      clear H0;obtain⟨a2,b2,done2,rest2,hab2,han2,rfl,rfl,hM⟩:=hrel;have hms:(a2:Int)+(s0:Int)=((a2+s0:Nat):Int):=by omega
      by_cases hbn2:b2≤n
      ·have hbz2:(b2:Int)≤(n:Int):=by omega
       have H6:=hid (HM1.out wr s0 a2 b2 done2 rest2 hM.out (by omega) (by have:=HDD.out;omega) hbn2);have hd20:20≤d:=by have:=HDD.out;omega
       generalize a2+s0=mm at*;have hdn:d≤80000000:=by have:=HDD.out;omega
       go_wp2_with (first|(go_at_call 203;refine Calls.mono H6.out ?_;rintro x w2 ⟨rfl,done',rest',hd⟩;have HD:=hid hd;clear hd)|fail)
       go_roundw
       case rel=>exact⟨b2,b2+d,done',rest',by omega,by omega,rfl,by go_num,HD⟩
       case measure=>simp[intOf];omega
      ·have hbz2:¬((b2:Int)≤(n:Int)):=by omega
       by_cases hmn:a2+s0<n
       ·have hmz:((a2+s0:Nat):Int)<(n:Int):=by omega
        have H6:=hid (HM2.out wr s0 a2 done2 rest2 hM.out (by omega) (by have:=HDD.out;omega) hmn);generalize a2+s0=mm at*
        go_wp2_with (first|(go_at_call 203;refine Calls.mono H6.out ?_;rintro x w2 ⟨rfl,l',hd⟩;have HD:=hid hd;clear hd)|fail)
        go_roundw
        case rel=>exact⟨d,l',by have:=HDD.out;omega,by have:=HDD.out;omega,rfl,hid (by have:=HD.out;rw[HDD.out]at this;exact this)⟩
        case measure=>have:=HDD.out;simp[intOf];omega
       ·have hmz:¬(((a2+s0:Nat):Int)<(n:Int)):=by omega
        obtain⟨l',hl'⟩:=hM.out.none (by omega) (by have:=HDD.out;omega) hmn;have HD:=hid hl';clear hl';generalize a2+s0=mm at*;go_wp2;go_roundw
        case rel=>exact⟨d,l',by have:=HDD.out;omega,by have:=HDD.out;omega,rfl,hid (by have:=HD.out;rw[HDD.out]at this;exact this)⟩
        case measure=>have:=HDD.out;simp[intOf];omega
    ·have hsz:¬((s0:Int)<(n:Int)):=by omega
     have hone:=hP.out.fu.one hP.out.ok (by rw[hP.out.d.len];omega) (by omega);have HO:=hid hone;clear hone;go_wp2;go_end0;exact⟨rfl,cat l,by rw[hP.out.z];exact HO.out.1,HO.out.2,hP.out.d⟩
theorem sortStable_any (w0 w:World) (blk n cap bx:Nat) (D:Nat→Prop) (cf:Nat→Nat→Int) (R:Nat→Nat→Prop) (tr:∀x y z,R x y→R y z→R x z) (zs:List Nat) (h:DR w0 w blk n cap zs) (hz:zs.Pairwise (Cf cf R)) (hD:∀x,x∈zs→D x)
 (hC:CmpAt w0 blk #[.pointer (some ⟨bx,0,none⟩)] D cf) (hn:n≤10000000):
 Calls Tryz.prog 128 #[.slice (some ⟨blk,0,none⟩) n cap,.func (.func 129) #[] #[.pointer (some ⟨bx,0,none⟩)]] w fun e w'=>e=.returned (.tuple #[])∧∃Z,Z.Perm zs∧Z.Pairwise R∧DR w0 w' blk n cap Z:=by
 have H:=hid (stable_any w0 w blk n cap bx D cf R tr zs h hz hD hC hn);clear h hz hD hC tr;go_enter Tryz.func128,Tryz.ntmps128
 go_wp2_with (first|(go_at_call 173;refine Calls.mono H.out ?_;rintro x w2 ⟨rfl,hd⟩;have HD:=hid hd;clear hd)|fail)
 go_end0;exact⟨rfl,HD.out⟩
def ltB:List UInt8→List UInt8→Bool
 |[],[]=>false
 |[],_::_=>true
 |_::_,[]=>false
 |a::x,b::y=>if a<b then true else if b<a then false else ltB x y
theorem ltB_cmp (x y:List UInt8):Lib.compareBytes x y<0↔ltB x y=true:=by
 induction x generalizing y with
 |nil=>cases y<;>simp[Lib.compareBytes,ltB]
 |cons a x ih=>
  cases y with
  |nil=>simp[Lib.compareBytes,ltB]
  |cons b y=>
   simp only[Lib.compareBytes,ltB];split
   ·simp
   ·split
    ·simp
    ·exact ih y
theorem ltB_trans {x y z:List UInt8} (h1:ltB x y=true) (h2:ltB y z=true):ltB x z=true:=by
 induction x generalizing y z with
 |nil=>
  cases z with
  |nil=>cases y<;>simp[ltB]at h1 h2
  |cons c z=>simp[ltB]
 |cons a x ih=>
  cases y with
  |nil=>simp[ltB]at h1
  |cons b y=>
   cases z with
   |nil=>simp[ltB]at h2
   |cons c z=>
    simp only[ltB]at h1 h2 ⊢;by_cases h3:a<b
    ·by_cases h4:b<c
     ·rw[if_pos (UInt8.lt_trans h3 h4)]
     ·rw[if_neg h4]at h2
      by_cases h5:c<b
      ·rw[if_pos h5]at h2;cases h2
      ·have:b=c:=UInt8.le_antisymm (UInt8.not_lt.1 h5) (UInt8.not_lt.1 h4)
       subst this;rw[if_pos h3]
    ·rw[if_neg h3]at h1
     by_cases h4:b<a
     ·rw[if_pos h4]at h1;cases h1
     ·rw[if_neg h4]at h1
      have:a=b:=UInt8.le_antisymm (UInt8.not_lt.1 h4) (UInt8.not_lt.1 h3);subst this;by_cases h5:a<c
      ·rw[if_pos h5]
      ·rw[if_neg h5]at h2 ⊢
       by_cases h6:c<a
       ·rw[if_pos h6]at h2;cases h2
       ·rw[if_neg h6]at h2 ⊢
        exact ih h1 h2
theorem ltB_total (x y:List UInt8):ltB x y=true∨x=y∨ltB y x=true:=by
 induction x generalizing y with
 |nil=>cases y<;>simp[ltB]
 |cons a x ih=>
  cases y with
  |nil=>simp[ltB]
  |cons b y=>
   simp only[ltB];by_cases h3:a<b
   ·simp[h3]
   ·by_cases h4:b<a
    ·simp[h4]
    ·have:a=b:=UInt8.le_antisymm (UInt8.not_lt.1 h4) (UInt8.not_lt.1 h3)
     subst this;simp only[h3,if_false];rcases ih y with h|h|h
     ·exact .inl h
     ·exact .inr (.inl (by rw[h]))
     ·exact .inr (.inr h)
theorem ltB_irrefl (x:List UInt8):ltB x x=false:=by
 induction x with
 |nil=>rfl
 |cons a x ih=>
  simp only[ltB];rw[if_neg (UInt8.lt_irrefl a),if_neg (UInt8.lt_irrefl a)];exact ih
def KO (key:Nat→List UInt8) (x y:Nat):Prop:=ltB (key x) (key y)=true∨(key x=key y∧x<y)
theorem KO.tr (key:Nat→List UInt8) (x y z:Nat) (h1:KO key x y) (h2:KO key y z):KO key x z:=by
 rcases h1 with h1|⟨h1,h1'⟩<;>rcases h2 with h2|⟨h2,h2'⟩
 ·exact .inl (ltB_trans h1 h2)
 ·exact .inl (by rw[←h2];exact h1)
 ·exact .inl (by rw[h1];exact h2)
 ·exact .inr ⟨h1.trans h2,by omega⟩
theorem KO.irrefl (key:Nat→List UInt8) (x:Nat):¬KO key x x:=by
 rintro(h|⟨_,h⟩)
 ·rw[ltB_irrefl]at h;cases h
 ·omega
theorem KO.cf (key:Nat→List UInt8) (x y:Nat) (h:x<y):Cf (fun a b=>Lib.compareBytes (key a) (key b)) (KO key) x y:=by
 refine⟨fun hc=>.inl ((ltB_cmp _ _).1 hc),fun hc=>?_⟩;have hc:¬ltB (key y) (key x)=true:=fun h'=>hc ((ltB_cmp _ _).2 h')
 rcases ltB_total (key x) (key y)with h1|h1|h1
 ·exact .inl h1
 ·exact .inr ⟨h1,h⟩
 ·exact absurd h1 hc
theorem sorted_one {R:Nat→Nat→Prop} (tr:∀x y z,R x y→R y z→R x z) (ir:∀x,¬R x x) {a b:List Nat} (hp:a.Perm b) (h1:a.Pairwise R) (h2:b.Pairwise R):a=b:=by
 induction a generalizing b with
 |nil=>exact hp.nil_eq
 |cons x a ih=>
  cases b with
  |nil=>exact absurd hp.symm.nil_eq (by simp)
  |cons y b=>
   have hxy:x=y:=by
    by_cases he:x=y
    ·exact he
    ·exfalso
     have hx:x∈y::b:=hp.mem_iff.1 (by simp);have hy:y∈x::a:=hp.mem_iff.2 (by simp)
     have hx:x∈b:=by
      rcases List.mem_cons.1 hx with h|h
      ·exact absurd h he
      ·exact h
     have hy:y∈a:=by
      rcases List.mem_cons.1 hy with h|h
      ·exact absurd h.symm he
      ·exact h
     exact ir x (tr _ _ _ ((List.pairwise_cons.1 h1).1 y hy) ((List.pairwise_cons.1 h2).1 x hx))
   subst hxy;rw[ih (List.Perm.cons_inv hp) (List.pairwise_cons.1 h1).2 (List.pairwise_cons.1 h2).2]
def uGo:Nat→List UInt8→Bool
 |_,[]=>true
 |0,_::_=>false
 |f+1,c::r=>if c.toNat<128 then uGo f r else
   if beginsV [c]=0∨(c::r).length<beginsV [c]then false
   else if beginsV ((c::r).take (beginsV [c]))=0 then false
   else uGo f ((c::r).drop (beginsV ((c::r).take (beginsV [c]))))
def isU (s:List UInt8):Bool:=uGo s.length s
theorem uGo_up (f g:Nat) (s:List UInt8) (h1:s.length≤f) (h2:s.length≤g):uGo f s=uGo g s:=by
 induction f generalizing g s with
 |zero=>
  have:s=[]:=List.eq_nil_of_length_eq_zero (by omega);subst this;cases g<;>rfl
 |succ f ih=>
  cases s with
  |nil=>cases g<;>rfl
  |cons c r=>
   cases g with
   |zero=>simp at h2
   |succ g=>
    simp only[List.length_cons]at h1 h2;rw[uGo,uGo];by_cases hc:c.toNat<128
    ·rw[if_pos hc,if_pos hc];exact ih g r (by omega) (by omega)
    ·rw[if_neg hc,if_neg hc]
     split
     ·rfl
     ·split
      ·rfl
      ·rename_i hz
       have hl:((c::r).drop (beginsV ((c::r).take (beginsV [c])))).length≤r.length:=by
        rw[List.length_drop,List.length_cons];omega
       exact ih g _ (by omega) (by omega)
theorem begins_or (c:UInt8) (r:List UInt8):beginsV (c::r)=0∨beginsV (c::r)=begSize c.toNat:=by
 show begN c.toNat r=0∨begN c.toNat r=_
 unfold begN;split
 ·exact .inl rfl
 ·split
  ·exact .inl rfl
  ·unfold begOk
   split
   ·exact .inl rfl
   ·exact .inr rfl
def goodI (x:Im):Bool:=
 if x.k=0∨x.k=1∨x.k=2 then decide (x.n=0)&&decide (x.b=0)&&x.s.isEmpty
 else if x.k=3 then decide (x.n=0)&&x.s.isEmpty&&decide (x.b % 9223372036854775808<9218868437227405312)
 else if x.k=4 then decide (x.n=0)&&decide (x.b=0)&&isU x.s
 else if x.k=5∨x.k=6 then decide (0≤x.n)&&decide (x.b=0)&&x.s.isEmpty
 else false
def partsG (sz:List Im→Nat) (obj:Bool):Nat→List Im→Option Nat
 |0,_=>some 0
 |c+1,l=>
  if obj=true then
   match l with
   |[]=>none
   |k::r=>if k.k=4∧goodI k=true then(if sz r=0 then none else(partsG sz obj c (r.drop (sz r))).map (fun m=>1+sz r+m))else none
  else if sz l=0 then none else(partsG sz obj c (l.drop (sz l))).map (fun m=>sz l+m)
def outN:Option Nat→Nat
 |none=>0
 |some m=>m+1
def sizeD:Nat→List Im→Nat
 |_,[]=>0
 |0,x::_=>if goodI x=true∧x.k<5 then 1 else 0
 |d+1,x::r=>if goodI x=true then(if x.k<5 then 1 else outN (partsG (sizeD d) (decide (x.k=6)) x.n.toNat r))else 0
theorem add_block (a:Addr) (i:Nat):(a.add i).block=a.block:=by unfold Addr.add;split<;>rfl
theorem goodI_nest {x:Im} (h:goodI x=true) (hk:¬x.k<5):(x.k=5∨x.k=6)∧0≤x.n:=by
 unfold goodI at h;rw[if_neg (by omega),if_neg (by omega),if_neg (by omega)]at h;split at h
 ·rename_i h2
  simp at h;exact⟨h2,h.1.1⟩
 ·cases h
theorem partsG_le {sz:List Im→Nat} (h:∀l,sz l≤l.length) (obj:Bool) (c:Nat) (l:List Im) (m:Nat) (hm:partsG sz obj c l=some m):m≤l.length:=by
 induction c generalizing l m with
 |zero=>simp[partsG]at hm;omega
 |succ c ih=>
  cases obj with
  |true=>
   cases l with
   |nil=>simp[partsG]at hm
   |cons k r=>
    simp only[partsG,if_true]at hm;split at hm
    ·split at hm
     ·cases hm
     ·obtain⟨m',h1,rfl⟩:=Option.map_eq_some_iff.1 hm
      have h2:=ih _ _ h1;have h3:=h r;rw[List.length_drop]at h2;simp only[List.length_cons];omega
    ·cases hm
  |false=>
   simp only[partsG,Bool.false_eq_true,if_false]at hm;split at hm
   ·cases hm
   ·obtain⟨m',h1,rfl⟩:=Option.map_eq_some_iff.1 hm
    have h2:=ih _ _ h1;have h3:=h l;rw[List.length_drop]at h2;omega
theorem sizeD_le (d:Nat) (l:List Im):sizeD d l≤l.length:=by
 induction d generalizing l with
 |zero=>
  cases l with
  |nil=>simp[sizeD]
  |cons x r=>simp only[sizeD,List.length_cons];split<;>omega
 |succ d ih=>
  cases l with
  |nil=>simp[sizeD]
  |cons x r=>
   simp only[sizeD,List.length_cons];split
   ·split
    ·omega
    ·cases hp:partsG (sizeD d) (decide (x.k=6)) x.n.toNat r with
     |none=>simp[outN]
     |some m=>
      have:=partsG_le ih _ _ _ _ hp;simp only[outN];omega
   ·omega
def lineL (indent:Int) (inn:Nat):List UInt8:=if indent<0 then[]else 10::List.replicate (indent.toNat*inn) 32
def hexB (n:Nat):UInt8:=if n<10 then UInt8.ofNat (48+n)else UInt8.ofNat (87+n)
def quoteB (c:UInt8):List UInt8:=
 if c.toNat=34∨c.toNat=92 then[92,c]else if c.toNat=8 then[92,98]else if c.toNat=9 then[92,116]else if c.toNat=10 then[92,110]
 else if c.toNat=12 then[92,102]else if c.toNat=13 then[92,114]else if c.toNat<32 then[92,117,48,48,hexB (c.toNat/16),hexB (c.toNat % 16)]else[c]
def quoteL (s:List UInt8):List UInt8:=34::(s.flatMap quoteB++[34])
theorem quoteB_le (c:UInt8):(quoteB c).length≤6:=by
 unfold quoteB
 repeat' split
 all_goals simp
theorem quote_len (s:List UInt8):(s.flatMap quoteB).length≤6*s.length:=by
 induction s with
 |nil=>simp
 |cons c s ih=>
  have:=quoteB_le c;simp only[List.flatMap_cons,List.length_append,List.length_cons];omega
end Go.Proofs.YtmkkibaacclhnaaGreatDoor
