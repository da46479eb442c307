/-
  A step of the walk, the part named Tri. No theorem of the row.
-/
import Derived.Test.YtmkkibaacclhnaaGreatDoorRep
import Derived.Test.YtmkkibaacclhnaaGreatDoorDlp
import Derived.Test.YtmkkibaacclhnaaGreatDoorTke
namespace Go.Proofs.YtmkkibaacclhnaaGreatDoor
open Go.RowKit
set_option maxRecDepth 100000
set_option maxHeartbeats 16000000
theorem Rnd.cross {X1 Y1 X2 Y2 r:Nat} (h1:0<Y1) (h2:0<Y2) (e:X1*Y2=X2*Y1) (h:Rnd X1 Y1 r):Rnd X2 Y2 r:=by
 have key:∀m,(m*Y1<2*X1→m*Y2<2*X2)∧(m*Y1=2*X1→m*Y2=2*X2)∧(2*X1<m*Y1→2*X2<m*Y2):=by
  intro m;have e2:2*X1*Y2=2*X2*Y1:=by rw[Nat.mul_assoc,e,Nat.mul_assoc]
  have e3:m*Y1*Y2=m*Y2*Y1:=Nat.mul_right_comm ..;refine⟨fun h=>?_,fun h=>?_,fun h=>?_⟩
  ·have:=(Nat.mul_lt_mul_right h2).2 h
   rw[e2,e3]at this;exact(Nat.mul_lt_mul_right h1).1 this
  ·have:m*Y1*Y2=2*X1*Y2:=by rw[h]
   rw[e2,e3]at this;exact Nat.eq_of_mul_eq_mul_right h1 this
  ·have:=(Nat.mul_lt_mul_right h2).2 h
   rw[e2,e3]at this;exact(Nat.mul_lt_mul_right h1).1 this
 obtain⟨a,b⟩:=h;refine⟨?_,?_⟩
 ·rcases a with a|a|⟨a,a'⟩
  ·exact .inl a
  ·exact .inr (.inl ((key _).1 a))
  ·exact .inr (.inr ⟨(key _).2.1 a,a'⟩)
 ·rcases b with b|⟨b,b'⟩
  ·exact .inl ((key _).2.2 b)
  ·exact .inr ⟨((key _).2.1 b.symm).symm,b'⟩
def SameV (c:Nat) (pw:Int) (d:Nat) (qw:Int):Prop:=c*p10 pw.toNat*p10 (-qw).toNat=d*p10 qw.toNat*p10 (-pw).toNat
theorem RndAt.same {c d n:Nat} {pw qw:Int} (e:SameV c pw d qw) (h:RndAt c pw n):RndAt d qw n:=by
 refine Rnd.cross (p10_pos _) (p10_pos _) ?_ h;unfold SameV at e;unfold pP;rw[←Nat.mul_assoc,←Nat.mul_assoc,Nat.mul_right_comm _ (p2 1074),e,Nat.mul_right_comm _ _ (p2 1074)]
theorem RndAt.up {c n:Nat} {pw:Int} (h:RndAt (10*c) pw n):RndAt c (pw+1) n:=by
 refine RndAt.same ?_ h;unfold SameV;rcases Int.lt_or_le pw 0 with hp|hp
 ·obtain⟨k,rfl⟩:∃k:Nat,pw= -((k:Int)+1):=⟨(-pw-1).toNat,by omega⟩
  rw[show(-((k:Int)+1)).toNat=0 by omega,show(-(-((k:Int)+1)+1)).toNat=k by omega,show(-((k:Int)+1)+1).toNat=0 by omega,show(-(-((k:Int)+1))).toNat=k+1 by omega,p10_succ];generalize p10 k=z;generalize p10 0=y;rw[Nat.mul_comm z 10,←Nat.mul_assoc,Nat.mul_right_comm c y 10,Nat.mul_comm c 10]
 ·obtain⟨k,rfl⟩:∃k:Nat,pw=(k:Int):=⟨pw.toNat,by omega⟩
  rw[show(k:Int).toNat=k by omega,show(-((k:Int)+1)).toNat=0 by omega,show((k:Int)+1).toNat=k+1 by omega,show(-(k:Int)).toNat=0 by omega,p10_succ,Nat.mul_comm 10 c,Nat.mul_assoc c 10,Nat.mul_comm 10]
theorem mid_pos (r:Nat):0<mid r:=by unfold mid;have:=V_succ r;omega
theorem RndAt.pos {c n:Nat} {pw:Int} (h:RndAt c pw n) (hn:n≠0):0<c:=by
 rcases Nat.eq_zero_or_pos c with rfl|h0
 ·exfalso
  have:=Nat.mul_pos (mid_pos (n-1)) (p10_pos (-pw).toNat);obtain⟨a,_⟩:=h;rw[Nat.zero_mul]at a;omega
 ·exact h0
theorem Short.last {n D:Nat} {pw:Int} (h:Short n D pw) (hn:n≠0):D % 10≠0:=by
 intro h0;have hr:=h.rnd hn;have hp:=hr.pos hn;obtain⟨dg,R,L,H,U,hI,hpk,hd⟩:=h;rcases hd with rfl|hd
 ·rcases pick_true hpk with rfl|rfl<;>omega
 ·refine hd.none hn (D/10) (RndAt.up ?_)
  rw[show 10*(D/10)=D by omega];exact hr
theorem big_1:mid 9218868437227405311<2*(p10 309*p2 1074):=by decide+kernel
theorem small_1:2*p2 1074<p10 324:=by decide+kernel
theorem RndAt.top {c n:Nat} {pw:Int} {k:Nat} (h:RndAt c pw n) (hn:n<9218868437227405312) (hk:p10 k≤c):(k:Int)+pw<309:=by
 rcases Int.lt_or_le ((k:Int)+pw) 309 with h1|h1
 ·exact h1
 ·exfalso
  obtain⟨_,b⟩:=h
  have hm:mid n≤mid 9218868437227405311:=by
   rcases Nat.lt_or_ge n 9218868437227405311 with h2|h2
   ·exact Nat.le_of_lt (mid_lt h2)
   ·rw[show n=9218868437227405311 by omega];exact Nat.le_refl _
  have h3:p10 309*p10 (-pw).toNat≤c*p10 pw.toNat:=by
   refine Nat.le_trans ?_ (Nat.mul_le_mul_right _ hk);rw[←p10_add,←p10_add];exact p10_le _ _ (by omega)
  have h4:=Nat.mul_le_mul_right (p2 1074) h3;have h5:mid n*p10 (-pw).toNat<2*(p10 309*p2 1074)*p10 (-pw).toNat:=(Nat.mul_lt_mul_right (p10_pos _)).2 (Nat.lt_of_le_of_lt hm big_1)
  have e1:2*(p10 309*p2 1074)*p10 (-pw).toNat=2*(p10 309*p10 (-pw).toNat*p2 1074):=by
   rw[Nat.mul_assoc 2,Nat.mul_right_comm (p10 309)]
  have e2:c*pP pw=c*p10 pw.toNat*p2 1074:=by rw[pP,Nat.mul_assoc]
  rw[e2]at b;rw[e1]at h5;omega
theorem RndAt.bottom {c n:Nat} {pw:Int} {k:Nat} (h:RndAt c pw n) (hn:n≠0) (hk:c<p10 k): -324<(k:Int)+pw:=by
 rcases Int.lt_or_le (-324) ((k:Int)+pw)with h1|h1
 ·exact h1
 ·exfalso
  obtain⟨a,_⟩:=h;have e2:c*pP pw=c*p10 pw.toNat*p2 1074:=by rw[pP,Nat.mul_assoc]
  rw[e2]at a
  have h2:c*p10 pw.toNat*p10 324≤p10 (-pw).toNat:=by
   refine Nat.le_trans (Nat.mul_le_mul_right _ (Nat.mul_le_mul_right _ (Nat.le_of_lt hk))) ?_;rw[←p10_add,←p10_add];exact p10_le _ _ (by omega)
  have h3:1*p10 (-pw).toNat≤mid (n-1)*p10 (-pw).toNat:=Nat.mul_le_mul_right _ (mid_pos _)
  have h4:2*(c*p10 pw.toNat*p2 1074)≤c*p10 pw.toNat*p10 324:=by
   rw[Nat.mul_left_comm];exact Nat.mul_le_mul_left _ (Nat.le_of_lt small_1)
  have h5:c*p10 pw.toNat=0∨2*(c*p10 pw.toNat*p2 1074)<c*p10 pw.toNat*p10 324:=by
   rcases Nat.eq_zero_or_pos (c*p10 pw.toNat)with h6|h6
   ·exact .inl h6
   ·refine .inr ?_
    rw[Nat.mul_left_comm];exact Nat.mul_lt_mul_of_pos_left small_1 h6
  have h7:=p10_pos (-pw).toNat;rcases h5 with h5|h5
  ·rw[h5,Nat.zero_mul]at a;omega
  ·omega
theorem num_zeros (z:Nat):num (List.replicate z 0)=0:=by
 induction z with
 |zero=>rfl
 |succ z ih=>rw[List.replicate_succ',num_snoc,ih]
theorem addDs_zeros (p:Int) (z:Nat):addDs ([],p) (List.replicate z 0)=([],p-z):=by
 induction z with
 |zero=>simp[addDs]
 |succ z ih=>rw[List.replicate_succ',addDs_snoc,ih,addD,if_pos ⟨rfl,rfl⟩];simp;omega
theorem addDs_digits (x:List Nat×Int) (ds:List Nat) (h0:x.1≠[]) (hl:x.1.length+ds.length≤768):addDs x ds=(x.1++ds,x.2):=by
 induction ds generalizing x with
 |nil=>simp[addDs]
 |cons d ds ih=>
  have e:addD x d=(x.1++[d],x.2):=by
   rw[List.length_cons]at hl;rw[addD,if_neg (by intro h;exact h0 h.1),if_pos (by omega)]
  show addDs (addD x d) ds=_
  rw[e,ih _ (by simp) (by simp at hl ⊢;omega)];simp
theorem zeros_split (ds:List Nat):∃z rest,ds=List.replicate z 0++rest∧(rest=[]∨∃d r,rest=d::r∧d≠0):=by
 induction ds with
 |nil=>exact⟨0,[],rfl,.inl rfl⟩
 |cons d ds ih=>
  by_cases h:d=0
  ·obtain⟨z,rest,e,h1⟩:=ih
   exact⟨z+1,rest,by rw[List.replicate_succ,h,e];rfl,h1⟩
  ·exact⟨0,d::ds,rfl,.inr ⟨d,ds,rfl,h⟩⟩
theorem addDs_short (p:Int) (ds:List Nat) (hl:ds.length≤768):∃z rest,ds=List.replicate z 0++rest∧(rest=[]∨∃d r,rest=d::r∧d≠0)∧addDs ([],p) ds=(rest,p-z):=by
 obtain⟨z,rest,e,h⟩:=zeros_split ds;refine⟨z,rest,e,h,?_⟩;rw[e,addDs_append,addDs_zeros];rcases h with rfl|⟨d,r,rfl,hd⟩
 ·rfl
 ·have hl2:z+(r.length+1)=ds.length:=by rw[e];simp
  show addDs (addD ([],p-z) d) r=_
  rw[addD,if_neg (by intro h;exact hd h.2),if_pos (by simp)];rw[addDs_digits _ _ (by simp) (by simp;omega)];rfl
theorem num_ge (d:Nat) (r:List Nat) (hd:d≠0):p10 r.length≤num (d::r):=by
 have:num (d::r)=num ([d]++r):=rfl;rw[this,num_append,show num [d]=d from by simp[num]];have:1*p10 r.length≤d*p10 r.length:=Nat.mul_le_mul_right _ (by omega);omega
theorem near_iff {ds:List Nat} {p:Int} {r n:Nat} (hl:ds.length≤768) (hD:Digs ds) (hn:n≠0) (hn2:n<9218868437227405312) (h:NearV (addDs ([],p) ds).1 (addDs ([],p) ds).2 r):
 r=n↔RndAt (num ds) (p-ds.length) n:=by
 obtain⟨z,rest,e,hr,ha⟩:=addDs_short p ds hl;rw[ha]at h;obtain⟨v1,v2⟩:=h;simp only at v1 v2;have hnum:num ds=num rest:=by rw[e,num_append,num_zeros];omega
 have hlen:ds.length=z+rest.length:=by rw[e];simp
 have hDr:Digs rest:=fun d hd=>hD d (by rw[e];exact List.mem_append_right _ hd)
 have hpw:p-(ds.length:Int)=p-z-rest.length:=by omega
 have hat:RndAt (num ds) (p-ds.length) n↔Rnd (num rest*p10 (p-z-rest.length).toNat*p2 1074) (p10 (rest.length-(p-z)).toNat) n:=by
  unfold RndAt pP;rw[hnum,hpw,←Nat.mul_assoc,show-(p-(z:Int)-rest.length)=rest.length-(p-z) by omega]
 constructor
 ·rintro rfl
  have ho:oor rest (p-z)=false:=by
   cases ho:oor rest (p-z)
   ·rfl
   ·have:=v1 ho;omega
  obtain⟨⟨h1,h2,h3⟩,_⟩:=v2 ho;have hne:rest≠[]:=fun h0=>hn (h1 (.inl h0))
  have hlo:¬p-(z:Int)< -323:=fun h0=>hn (h1 (.inr h0))
  have hhi:¬309<p-(z:Int):=fun h0=>by have:=h2 hne hlo h0;omega
  exact hat.2 (h3 hne hlo hhi)
 ·intro hR
  have hpos:=hR.pos hn;rw[hnum]at hpos;rcases hr with rfl|⟨d,rr,rfl,hd⟩
  ·simp[num]at hpos
  ·have hne:d::rr≠[]:=by simp
   have ht:=hR.top hn2 (k:=rr.length) (by rw[hnum];exact num_ge d rr hd);have hb:=hR.bottom hn (k:=rr.length+1) (by rw[hnum];exact num_lt _ hDr);rw[List.length_cons]at hlen;have hlo:¬p-(z:Int)< -323:=by omega
   have hhi:¬309<p-(z:Int):=by omega
   obtain⟨⟨h1,h2,h3⟩,_⟩:=v2 (oor_no hDr (by omega) (hat.1 hR) hn2);exact Rnd.uniq (p10_pos _) (h3 hne hlo hhi) (hat.1 hR)
theorem head_app {a b:List UInt8} (ha:a≠[]):(a++b).head? =a.head? :=by
 cases a with
 |nil=>exact absurd rfl ha
 |cons x a=>rfl
theorem sgP_len (neg:Bool):(sgP neg).length≤1:=by cases neg<;>simp[sgP]
theorem parse_pieces {neg:Bool} {wh fr s ex:List UInt8} {en:Bool} (hw:AllD wh) (hf:AllD fr) (hx:AllD ex) (hs:SgOk s en) (he:ex=[]→en=false) (h0:wh≠[]) (h1:¬(wh.head? =some 48∧1<wh.length))
 (w:World) (hl:(sgP neg++(wh++(frP fr++exP s ex))).length≤1000000000000000):
 Calls Tryz.prog 22 #[.string (ofL (sgP neg++(wh++(frP fr++exP s ex))))] w fun e w'=>∃r,NearV (addDs ([],(wh.length:Int)+powI (ofL wh) (ofL fr) en (ofL ex)) (dv wh++dv fr)).1 (addDs ([],(wh.length:Int)+powI (ofL wh) (ofL fr) en (ofL ex)) (dv wh++dv fr)).2 r∧
  e=.returned (.tuple #[.int .u64 ((parseV neg r).1:Nat),.int .i64 ((parseV neg r).2:Nat)])∧Fr (fun _=>False) w w':=by
 obtain⟨k,hk,hrun⟩:=run_tok (neg:=neg) hw hf hx hs he h0 h1;refine(parse_run _ w hl).mono ?_;rintro e w' ⟨⟨hp,_⟩,hF⟩;obtain⟨r,hr,rfl⟩:=hp _ hrun hk;refine⟨r,?_,rfl,hF⟩;have es:=addDs_shift ([],(wh.length:Int)) (powI (ofL wh) (ofL fr) en (ofL ex)) (dv wh++dv fr);simp only at es;rw[es];simp only at hr ⊢;unfold Tk.at at hr;simp only at hr;refine hr.far ?_;unfold powI;rw[dig_ofL];generalize (addDs ([],(wh.length:Int)) (dv wh++dv fr)).2=P;generalize num (dv ex)=q;cases en
 ·simp only[Bool.false_eq_true,if_false];omega
 ·simp only[if_true];omega
theorem dv_append (a b:List UInt8):dv (a++b)=dv a++dv b:=by simp[dv]
theorem dv_length (a:List UInt8):(dv a).length=a.length:=by simp[dv]
theorem dv_zeros (k:Nat):dv (List.replicate k 48)=List.replicate k 0:=by simp[dv]
theorem ofNat_byte (m:Nat) (h:m<10):(UInt8.ofNat (48+m)).toNat=48+m:=UInt8.toNat_ofNat_of_lt' (by show _<256;omega)
theorem num_one (d:Nat):num [d]=d:=by simp[num]
theorem num_dgs (n:Nat):num (dv (dgs n))=n:=by
 induction n using Nat.strongRecOn with
 |_ n ih=>
  by_cases h:n<10
  ·rw[dgs_lt h]
   show num [(UInt8.ofNat (48+n)).toNat-48]=n
   rw[ofNat_byte n h,num_one];omega
  ·rw[dgs_ge h,dv_append]
   show num (_++[(UInt8.ofNat (48+n % 10)).toNat-48])=n
   rw[num_snoc,ih (n/10) (by omega),ofNat_byte _ (by omega)];omega
theorem isD_dig (m:Nat) (h:m<10):isD (UInt8.ofNat (48+m))=true:=by
 unfold isD;rw[ofNat_byte m h];simp;omega
theorem AllD.append {a b:List UInt8} (ha:AllD a) (hb:AllD b):AllD (a++b):=by
 intro c hc;rw[List.mem_append]at hc;rcases hc with hc|hc
 ·exact ha c hc
 ·exact hb c hc
theorem allD_zeros (k:Nat):AllD (List.replicate k 48):=by
 intro c hc;rw[List.mem_replicate]at hc;rw[hc.2];decide
theorem allD_nil:AllD []:=by intro c hc;cases hc
theorem allD_48:AllD [48]:=allD_zeros 1
theorem allD_dgs (n:Nat):AllD (dgs n):=by
 induction n using Nat.strongRecOn with
 |_ n ih=>
  by_cases h:n<10
  ·rw[dgs_lt h];intro c hc;rw[List.mem_singleton]at hc;rw[hc];exact isD_dig n h
  ·rw[dgs_ge h]
   exact(ih _ (by omega)).append (by intro c hc;rw[List.mem_singleton]at hc;rw[hc];exact isD_dig _ (by omega))
theorem dgs_head (n:Nat) (h0:n≠0):(dgs n).head? ≠some 48:=by
 induction n using Nat.strongRecOn with
 |_ n ih=>
  by_cases h:n<10
  ·rw[dgs_lt h]
   intro he;have he:UInt8.ofNat (48+n)=48:=Option.some.inj he;have:=congrArg UInt8.toNat he;rw[ofNat_byte n h]at this;have h48:(48:UInt8).toNat=48:=rfl;omega
  ·rw[dgs_ge h,head_app (by intro h;have:=dgs_pos (n/10);rw[h]at this;simp at this)]
   exact ih _ (by omega) (by omega)
theorem AllD.digs {l:List UInt8} (h:AllD l):Digs (dv l):=by
 intro d hd;unfold dv at hd;rw[List.mem_map]at hd;obtain⟨c,hc,rfl⟩:=hd;have:=h c hc;unfold isD at this;simp at this;omega
theorem AllD.take {l:List UInt8} (h:AllD l) (k:Nat):AllD (l.take k):=fun c hc=>h c (List.mem_of_mem_take hc)
theorem AllD.drop {l:List UInt8} (h:AllD l) (k:Nat):AllD (l.drop k):=fun c hc=>h c (List.mem_of_mem_drop hc)
theorem SameV.refl (c:Nat) (pw:Int):SameV c pw c pw:=rfl
structure Tok (t wh fr s ex:List UInt8) (en:Bool):Prop where
 eq:t=wh++(frP fr++exP s ex)
 w:AllD wh
 f:AllD fr
 x:AllD ex
 sg:SgOk s en
 no:ex=[]→en=false
 w0:wh≠[]
 w1:¬(wh.head? =some 48∧1<wh.length)
theorem powI_nil (wh fr:List UInt8):powI (ofL wh) (ofL fr) false (ofL [])=0:=by
 unfold powI;rw[dig_ofL];simp[dv,num]
theorem powI_dgs (wh fr:List UInt8) (k:Nat) (en:Bool):powI (ofL wh) (ofL fr) en (ofL (dgs k))=if en then-(k:Int)else k:=by
 unfold powI;rw[dig_ofL,num_dgs]
theorem frP_drop (l:List UInt8) (k:Nat):frP (l.drop k)=if k<l.length then 46::l.drop k else[]:=by
 unfold frP;by_cases h:k<l.length
 ·rw[if_neg (by rw[List.drop_eq_nil_iff];omega),if_pos h]
 ·rw[if_pos (by rw[List.drop_eq_nil_iff];omega),if_neg h]
theorem lay_tok (D:Nat) (pw:Int) (hD:D≠0) (hl:(dgs D).length≤20) (h1: -324<((dgs D).length:Int)+pw) (h2:((dgs D).length:Int)+pw<310):
 ∃wh fr s ex en,Tok (layL (dgs D) pw) wh fr s ex en∧wh.length+fr.length≤100∧SameV D pw (num (dv wh++dv fr)) (powI (ofL wh) (ofL fr) en (ofL ex)-fr.length):=by
 have hnum:=num_dgs D;have hA:=allD_dgs D;have hH:=dgs_head D hD;have hp:=dgs_pos D;generalize dgs D=l at*;have hne:l≠[]:=by intro h;rw[h]at hp;simp at hp
 unfold layL;by_cases c1:(l.length:Int)+pw>21∨(l.length:Int)+pw< -5
 ·rw[if_pos c1]
  have key:∀(en:Bool) (k:Nat),k≤632→(if en then-(k:Int)else k)=(l.length:Int)+pw-1→
   Tok (l.take 1++(if 1<l.length then 46::l.drop 1 else[])++(101::((if en then[45]else[43])++dgs k))) (l.take 1) (l.drop 1) (if en then[45]else[43]) (dgs k) en∧(l.take 1).length+(l.drop 1).length≤100∧
   SameV D pw (num (dv (l.take 1)++dv (l.drop 1))) (powI (ofL (l.take 1)) (ofL (l.drop 1)) en (ofL (dgs k))-(l.drop 1).length):=by
   intro en k hk hx;have hk0:dgs k≠[]:=by intro h;have:=dgs_pos k;rw[h]at this;simp at this
   refine⟨⟨?_,hA.take 1,hA.drop 1,allD_dgs k,?_,fun h=>absurd h hk0,?_,?_⟩,?_,?_⟩
   ·rw[frP_drop,exP,if_neg hk0,List.append_assoc]
   ·cases en
    ·exact .inr (.inl ⟨rfl,rfl⟩)
    ·exact .inr (.inr ⟨rfl,rfl⟩)
   ·simp[hne]
   ·rw[List.length_take];omega
   ·rw[List.length_take,List.length_drop];omega
   ·rw[←dv_append,List.take_append_drop,hnum,powI_dgs _ _ _ _,hx,List.length_drop,show(l.length:Int)+pw-1-(l.length-1:Nat)=pw by omega]
    exact SameV.refl _ _
  unfold expL;by_cases hx:(l.length:Int)+pw-1<0
  ·rw[if_pos hx]
   exact⟨_,_,_,_,true,key true (-((l.length:Int)+pw-1)).toNat (by omega) (by simp;omega)⟩
  ·rw[if_neg hx]
   exact⟨_,_,_,_,false,key false ((l.length:Int)+pw-1).toNat (by omega) (by simp;omega)⟩
 ·rw[if_neg c1]
  by_cases c2:(l.length:Int)+pw≤0
  ·rw[if_pos c2]
   have hf0:List.replicate (-((l.length:Int)+pw)).toNat 48++l≠[]:=by simp[hne]
   refine⟨[48],List.replicate (-((l.length:Int)+pw)).toNat 48++l,[],[],false,⟨?_,allD_48,(allD_zeros _).append hA,allD_nil,.inl ⟨rfl,rfl⟩,fun _=>rfl,by simp,by simp⟩,by simp;omega,?_⟩
   ·rw[frP,if_neg hf0,exP,if_pos rfl];simp
   ·rw[powI_nil,dv_append,dv_zeros]
    rw[show dv [48]++(List.replicate (-((l.length:Int)+pw)).toNat 0++dv l)=List.replicate ((-((l.length:Int)+pw)).toNat+1) 0++dv l from by rw[List.replicate_succ];rfl];rw[num_append,num_zeros,Nat.zero_mul,Nat.zero_add,hnum,List.length_append,List.length_replicate,show(0:Int)-(((-((l.length:Int)+pw)).toNat+l.length:Nat):Int)=pw by omega];exact SameV.refl _ _
  ·rw[if_neg c2]
   by_cases c3:0≤pw
   ·rw[if_pos c3]
    obtain⟨k,rfl⟩:∃k:Nat,pw=(k:Int):=⟨pw.toNat,by omega⟩;rw[show(k:Int).toNat=k by omega];refine⟨l++List.replicate k 48,[],[],[],false,⟨?_,hA.append (allD_zeros _),allD_nil,allD_nil,.inl ⟨rfl,rfl⟩,fun _=>rfl,by simp[hne],?_⟩,by simp;omega,?_⟩
    ·simp[frP,exP]
    ·rw[head_app hne];exact fun h=>hH h.1
    ·rw[powI_nil,dv_append,dv_zeros]
     show SameV D k (num (dv l++List.replicate k 0++[])) 0
     rw[List.append_nil,num_append,num_zeros,hnum,List.length_replicate,Nat.add_zero];unfold SameV;rw[show(k:Int).toNat=k by omega,show(-(k:Int)).toNat=0 by omega]
     show D*p10 k*p10 0=D*p10 k*p10 0*p10 0
     rw[show p10 0=1 from rfl,Nat.mul_one,Nat.mul_one]
   ·rw[if_neg c3]
    obtain⟨k,hk⟩:∃k:Nat,(l.length:Int)+pw=k:=⟨((l.length:Int)+pw).toNat,by omega⟩;rw[hk,show(k:Int).toNat=k by omega];refine⟨l.take k,l.drop k,[],[],false,⟨?_,hA.take k,hA.drop k,allD_nil,.inl ⟨rfl,rfl⟩,fun _=>rfl,?_,?_⟩,?_,?_⟩
    ·rw[frP_drop,if_pos (by omega),exP,if_pos rfl];simp
    ·rw[Ne,List.take_eq_nil_iff];simp[hne];omega
    ·intro h
     have:=h.1;rw[List.head?_take,if_neg (by omega)]at this;exact hH this
    ·rw[List.length_take,List.length_drop];omega
    ·rw[powI_nil,←dv_append,List.take_append_drop,hnum,List.length_drop,show(0:Int)-((l.length-k:Nat):Int)=pw by omega]
     exact SameV.refl _ _
theorem parse_tok {t wh fr s ex:List UInt8} {en:Bool} (neg:Bool) (h:Tok t wh fr s ex en) (hl:t.length≤1000) (hd:wh.length+fr.length≤768) (w:World):
 Calls Tryz.prog 22 #[.string (ofL (sgP neg++t))] w fun e w'=>∃r,(∀n,n≠0→n<9218868437227405312→(r=n↔RndAt (num (dv wh++dv fr)) (powI (ofL wh) (ofL fr) en (ofL ex)-fr.length) n))∧
  e=.returned (.tuple #[.int .u64 ((parseV neg r).1:Nat),.int .i64 ((parseV neg r).2:Nat)])∧Fr (fun _=>False) w w':=by
 have hlen:(sgP neg++(wh++(frP fr++exP s ex))).length≤1000000000000000:=by
  rw[←h.eq,List.length_append];have:=sgP_len neg;omega
 rw[h.eq];refine(parse_pieces h.w h.f h.x h.sg h.no h.w0 h.w1 w hlen).mono ?_;rintro e w' ⟨r,hr,he,hF⟩;refine⟨r,fun n hn hn2=>?_,he,hF⟩
 have:=near_iff (by rw[List.length_append,dv_length,dv_length];exact hd) (by
  intro d hd;rw[List.mem_append]at hd;rcases hd with hd|hd
  ·exact h.w.digs d hd
  ·exact h.f.digs d hd) hn hn2 hr
 rw[this,List.length_append,dv_length,dv_length,show(wh.length:Int)+powI (ofL wh) (ofL fr) en (ofL ex)-((wh.length+fr.length:Nat):Int)=powI (ofL wh) (ofL fr) en (ofL ex)-fr.length by omega]
theorem printL_eq (neg:Bool) (t:List UInt8):printL neg t=sgP neg++t:=by cases neg<;>rfl
theorem num_top (l:List UInt8) (hA:AllD l) (h0:l≠[]) (hH:l.head? ≠some 48):p10 (l.length-1)≤num (dv l):=by
 cases l with
 |nil=>exact absurd rfl h0
 |cons c r=>
  have hc:=hA c List.mem_cons_self
  have:c.toNat-48≠0:=by
   intro h;apply hH;unfold isD at hc;simp at hc;have:c.toNat=(48:UInt8).toNat:=by show c.toNat=48;omega
   rw[List.head?_cons,UInt8.toNat_inj.1 this]
  have:=num_ge (c.toNat-48) (dv r) this;rw[dv_length]at this;exact this
theorem Short.point {n D:Nat} {pw:Int} (h:Short n D pw) (hn:n≠0) (hn2:n<9218868437227405312): -324<((dgs D).length:Int)+pw∧((dgs D).length:Int)+pw<310:=by
 have hr:=h.rnd hn;have hp:=hr.pos hn;have hlp:=dgs_pos D
 have ht:=hr.top hn2 (k:=(dgs D).length-1) (by
  have:=num_top (dgs D) (allD_dgs D) (by intro h;rw[h]at hlp;simp at hlp) (dgs_head D (by omega))
  rwa[num_dgs]at this)
 have hb:=hr.bottom hn (k:=(dgs D).length) (by
  have:=num_lt _ (allD_dgs D).digs
  rwa[num_dgs,dv_length]at this)
 omega
theorem parse_print {n D:Nat} {pw:Int} (neg:Bool) (h:Short n D pw) (hn:n≠0) (hn2:n<9218868437227405312) (hD:D≤90071992547409920) (hp1: -5000≤pw) (hp2:pw≤5000) (w:World):
 Calls Tryz.prog 22 #[.string (ofL (printL neg (layL (dgs D) pw)))] w fun e w'=>e=.returned (.tuple #[.int .u64 ((parseV neg n).1:Nat),.int .i64 ((parseV neg n).2:Nat)])∧Fr (fun _=>False) w w':=by
 have hr:=h.rnd hn;have hpos:=hr.pos hn;have hl:=dgs_len20 D (by omega);obtain⟨p1,p2⟩:=h.point hn hn2;obtain⟨wh,fr,s,ex,en,ht,hlen,hS⟩:=lay_tok D pw (by omega) hl p1 p2;rw[printL_eq];refine(parse_tok neg ht (Nat.le_trans (layL_len _ _ hl hp1 hp2) (by omega)) (by omega) w).mono ?_;rintro e w' ⟨r,hiff,he,hF⟩;have:r=n:=(hiff n hn hn2).2 (hr.same hS);subst this;exact⟨he,hF⟩
theorem one_rnd:RndAt 5 (-324) 1:=by
 show Rnd (5*pP (-324)) (p10 324) 1
 unfold Rnd;decide+kernel
theorem mid_1:mid 1=3:=by decide+kernel
theorem mid_0:mid 0=1:=by decide+kernel
theorem p10_a:3*p10 324<20*p2 1074:=by decide+kernel
theorem p10_b:20*p2 1074<p10 325:=by decide+kernel
theorem p10_d:4*p2 1074<p10 324∧p10 324<5*p2 1074∧9*p2 1074<2*p10 324:=by decide+kernel
theorem one_lo {c:Nat} {pw:Int} (h:RndAt c pw 1):pw≤ -324:=by
 rcases Int.lt_or_le (-324) pw with h1|h1
 ·exfalso
  have hpos:=h.pos (by omega);obtain⟨_,b⟩:=h;have e2:c*pP pw=c*p10 pw.toNat*p2 1074:=by rw[pP,Nat.mul_assoc]
  rw[e2,mid_1]at b
  have h3:10*p10 (-pw).toNat≤c*p10 pw.toNat*p10 324:=by
   have:p10 (-pw).toNat*10≤p10 pw.toNat*p10 324:=by
    rw[←p10_succ,←p10_add];exact p10_le _ _ (by omega)
   have h4:1*(p10 pw.toNat*p10 324)≤c*(p10 pw.toNat*p10 324):=Nat.mul_le_mul_right _ hpos;rw[Nat.mul_assoc c];omega
  have hA:0<c*p10 pw.toNat:=Nat.mul_pos hpos (p10_pos _);have h6:=Nat.mul_lt_mul_of_pos_left p10_a hA;have e3:c*p10 pw.toNat*(3*p10 324)=3*(c*p10 pw.toNat*p10 324):=Nat.mul_left_comm ..;have e4:c*p10 pw.toNat*(20*p2 1074)=20*(c*p10 pw.toNat*p2 1074):=Nat.mul_left_comm ..;omega
 ·exact h1
theorem SameV.shift (c k:Nat) (pw:Int):SameV c pw (c*p10 k) (pw-k):=by
 unfold SameV;rcases Int.lt_or_le pw 0 with hp|hp
 ·rw[show pw.toNat=0 by omega,show(pw-k).toNat=0 by omega,show(-(pw-k)).toNat=k+(-pw).toNat by omega,p10_add,show p10 0=1 from rfl,Nat.mul_one,Nat.mul_one,Nat.mul_assoc]
 ·obtain⟨m,rfl⟩:∃m:Nat,pw=m:=⟨pw.toNat,by omega⟩
  rw[show(-(m:Int)).toNat=0 by omega,show p10 0=1 from rfl,Nat.mul_one,Nat.mul_assoc,Nat.mul_assoc,←p10_add,←p10_add];congr 2;omega
theorem one_short {D:Nat} {pw:Int} (h:Short 1 D pw):D=5∧pw= -324:=by
 have hr:=h.rnd (by omega);have hlo:=one_lo hr;obtain⟨dg,R,L,H,U,hI,hp,hpr⟩:=h
 have hpw:pw= -324:=by
  rcases Int.lt_or_le pw (-324)with h1|h1
  ·exfalso
   rcases hpr with rfl|hpr
   ·have hD:=pick_true hp
    obtain⟨a,_⟩:=hr;have e2:D*pP pw=D*p2 1074:=by rw[pP,show pw.toNat=0 by omega,show p10 0=1 from rfl,Nat.one_mul]
    rw[e2,show 1-1=0 from rfl,mid_0]at a;have h2:=p10_le 325 (-pw).toNat (by omega);have h3:=p10_b;have h4:D*p2 1074≤1*p2 1074:=Nat.mul_le_mul_right _ (by omega);omega
   ·refine hpr.none (by omega) (5*p10 (-325-pw).toNat) ?_
    have:=one_rnd.same (SameV.shift 5 (-325-pw).toNat (-324));rwa[show(-324:Int)-((-325-pw).toNat:Nat)=pw+1 by omega]at this
  ·omega
 subst hpw;refine⟨?_,rfl⟩
 have ha:(dg*U+R)*p2 1074=p10 324*U:=by
  have:=hI.a;unfold pP pQ at this;rw[show V 1=1 from by decide+kernel,show(-324:Int).toNat=0 from rfl,show(-(-324):Int).toNat=324 from rfl,show p10 0=1 from rfl,Nat.one_mul,Nat.one_mul,Nat.mul_comm U]at this;exact this
 have hU:=hI.upos;have hR:=hI.r;obtain⟨d1,d2,d3⟩:=p10_d;have k1:=(Nat.mul_lt_mul_right hU).2 d1;have k2:=(Nat.mul_lt_mul_right hU).2 d2;have k3:=(Nat.mul_lt_mul_right hU).2 d3;have hp2:=p2_pos 1074;have e4:4*p2 1074*U=4*U*p2 1074:=Nat.mul_right_comm ..;have e5:5*p2 1074*U=5*U*p2 1074:=Nat.mul_right_comm ..;have e9:9*p2 1074*U=9*U*p2 1074:=Nat.mul_right_comm ..;have eT:2*p10 324*U=2*(dg*U+R)*p2 1074:=by rw[Nat.mul_assoc,←ha,Nat.mul_assoc]
 rw[e4,←ha]at k1;rw[e5,←ha]at k2;rw[e9,eT]at k3;have q1:=(Nat.mul_lt_mul_right hp2).1 k1;have q2:=(Nat.mul_lt_mul_right hp2).1 k2;have q3:=(Nat.mul_lt_mul_right hp2).1 k3
 have hdg:dg=4:=by
  have b1:dg*U<5*U:=by omega
  have b2:=(Nat.mul_lt_mul_right hU).1 b1;have b3:4*U<(dg+1)*U:=by rw[Nat.add_mul];omega
  have b4:=(Nat.mul_lt_mul_right hU).1 b3;omega
 subst hdg
 have hw1:wi (U-R) H (ev 1)=true:=by
  have:=(hI.high (by omega) (show 4<4+1 by omega)).1 one_rnd;rwa[Nat.add_sub_cancel_left,Nat.one_mul]at this
 have hlow:lowF 4 R U=false:=by
  unfold lowF;rw[decide_eq_false (by omega),decide_eq_false (by omega)];rfl
 unfold pickF at hp;rw[hw1]at hp;cases h1:wi R L (ev 1)<;>rw[h1]at hp<;>simp only at hp
 ·simp at hp;exact hp.symm
 ·rw[hlow]at hp;simp at hp;exact hp.symm
theorem num_zero_all {ds:List Nat} {p:Int} {r:Nat} (hl:ds.length≤768) (h0:num ds=0) (h:NearV (addDs ([],p) ds).1 (addDs ([],p) ds).2 r):r=0:=by
 obtain⟨z,rest,e,hr,ha⟩:=addDs_short p ds hl;rw[ha]at h;rcases hr with rfl|⟨d,rr,rfl,hd⟩
 ·exact(h.2 (if_pos (.inl rfl))).1.1 (.inl rfl)
 ·exfalso
  have:=num_ge d rr hd;have hp:=p10_pos rr.length;rw[e,num_append,num_zeros]at h0;omega
theorem parse_zero {t wh fr s ex:List UInt8} {en:Bool} (neg:Bool) (h:Tok t wh fr s ex en) (hl:t.length≤1000) (hd:wh.length+fr.length≤768) (h0:num (dv wh++dv fr)=0) (w:World):
 Calls Tryz.prog 22 #[.string (ofL (sgP neg++t))] w fun e w'=>e=.returned (.tuple #[.int .u64 ((parseV neg 0).1:Nat),.int .i64 ((parseV neg 0).2:Nat)])∧Fr (fun _=>False) w w':=by
 have hlen:(sgP neg++(wh++(frP fr++exP s ex))).length≤1000000000000000:=by
  rw[←h.eq,List.length_append];have:=sgP_len neg;omega
 rw[h.eq];refine(parse_pieces h.w h.f h.x h.sg h.no h.w0 h.w1 w hlen).mono ?_;rintro e w' ⟨r,hr,he,hF⟩;have:=num_zero_all (by rw[List.length_append,dv_length,dv_length];exact hd) h0 hr;subst this;exact⟨he,hF⟩
theorem tok_dgs (k:Nat):Tok (dgs k) (dgs k) [] [] [] false:=by
 refine⟨by simp[frP,exP],allD_dgs k,allD_nil,allD_nil,.inl ⟨rfl,rfl⟩,fun _=>rfl,by intro h;have:=dgs_pos k;rw[h]at this;simp at this,?_⟩;by_cases h:k=0
 ·subst h;rw[dgs_lt (by omega)];simp
 ·intro h2;exact dgs_head k h h2.1
theorem known_rnd:RndAt 9007199254740993 0 4845873199050653696:=by
 show Rnd (9007199254740993*pP 0) (p10 0) 4845873199050653696
 unfold Rnd;decide+kernel
theorem known_dgs:dgs 9007199254740993=[57,48,48,55,49,57,57,50,53,52,55,52,48,57,57,51]:=by
 simp[dgs_ge,dgs_lt]
theorem known_tok:layL (dgs 5) (-324)=[53,101,45,51,50,52]:=by
 have h5:dgs 5=[53]:=by rw[dgs_lt (by omega)];rfl
 rw[h5];unfold layL;rw[if_pos (by right;decide)];unfold expL;rw[if_neg (by decide),if_pos (by decide)]
 show[53]++[]++([101,45]++dgs 324)=_
 rw[dgs_ge (by omega),dgs_ge (by omega),dgs_lt (by omega)];rfl
theorem known_p1 (w:World):Calls Tryz.prog 22 #[.string ⟨#[57,48,48,55,49,57,57,50,53,52,55,52,48,57,57,51]⟩] w fun e w'=>e=.returned (.tuple #[.int .u64 4845873199050653696,.int .i64 0])∧Fr (fun _=>False) w w':=by
 have:=parse_tok false (tok_dgs 9007199254740993) (by rw[known_dgs];decide) (by rw[known_dgs];decide) w;rw[known_dgs]at this;refine Calls.mono this ?_;rintro e w' ⟨r,hr,he,hF⟩;have h2:=hr 4845873199050653696 (by omega) (by omega);rw[←known_dgs,powI_nil,show dv []=[]from rfl,List.append_nil,num_dgs]at h2;have h3:=h2.2 known_rnd;subst h3;exact⟨he,hF⟩
theorem known_p2 (w:World):Calls Tryz.prog 22 #[.string ⟨#[45,48]⟩] w fun e w'=>e=.returned (.tuple #[.int .u64 9223372036854775808,.int .i64 0])∧Fr (fun _=>False) w w':=by
 have h0:dgs 0=[48]:=by rw[dgs_lt (by omega)];rfl
 have:=parse_zero true (tok_dgs 0) (by rw[h0];decide) (by rw[h0];decide) (by rw[show dv []=[]from rfl,List.append_nil,num_dgs]) w;rw[h0]at this;exact this
theorem known_p3 (w:World):Calls Tryz.prog 23 #[.int .u64 1] w fun e w'=>e=.returned (.tuple #[.string ⟨#[53,101,45,51,50,52]⟩,.int .i64 0])∧Fr (fun _=>False) w w':=by
 refine(print_num 1 1 w (u64_andNot_sign 1 (by omega)) (by omega) (by omega)).mono ?_;rintro e w' ⟨D,pw,hs,_,_,_,he,hF⟩;obtain⟨rfl,rfl⟩:=one_short hs;rw[known_tok]at he;exact⟨he,hF⟩
theorem known_any (w:World):Calls Tryz.prog 11 #[] w fun e w'=>e=.returned (.bool true)∧Fr (fun _=>False) w w':=by
 go_enter Tryz.func11,Tryz.ntmps11
 go_wp2_with fail
 refine(known_p1 _).mono ?_;rintro e w1 ⟨rfl,hF1⟩
 go_wp2_with fail
 refine(known_p2 _).mono ?_;rintro e w2 ⟨rfl,hF2⟩
 go_wp2_with fail
 refine(known_p3 _).mono ?_;rintro e w3 ⟨rfl,hF3⟩;go_wp2;go_ret;exact⟨rfl,(hF1.trans hF2).trans hF3⟩
end Go.Proofs.YtmkkibaacclhnaaGreatDoor
