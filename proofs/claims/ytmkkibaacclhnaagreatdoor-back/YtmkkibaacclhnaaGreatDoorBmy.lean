/-
  A step of the walk, the part named Bmy. No theorem of the row.
-/
import Derived.Test.YtmkkibaacclhnaaGreatDoorXcd
import Derived.Test.YtmkkibaacclhnaaGreatDoorXfg
namespace Go.Proofs.YtmkkibaacclhnaaGreatDoor
open Go.RowKit
set_option maxRecDepth 100000
set_option maxHeartbeats 16000000
theorem three_cell0 {w:World} {B:Nat} {a b c:Value} {t:TypeId} (h:w.heap[B]? =some (.cells #[a,b,c] t (0,0))):w.cell? ⟨B,0,none⟩=some a:=by simp[World.cell?,h]
theorem three_cell1 {w:World} {B:Nat} {a b c:Value} {t:TypeId} (h:w.heap[B]? =some (.cells #[a,b,c] t (0,0))):w.cell? ⟨B,1,none⟩=some b:=by simp[World.cell?,h]
theorem three_cell2 {w:World} {B:Nat} {a b c:Value} {t:TypeId} (h:w.heap[B]? =some (.cells #[a,b,c] t (0,0))):w.cell? ⟨B,2,none⟩=some c:=by simp[World.cell?,h]
theorem three_free {w:World} {B j:Nat} {a b c:Value} {t:TypeId} (h:w.heap[B]? =some (.cells #[a,b,c] t (0,0))):w.frozen? ⟨B,j,none⟩=false:=by simp[World.frozen?,h]
theorem three_set0 {w:World} {B:Nat} {a b c u:Value} {t:TypeId} (h:w.heap[B]? =some (.cells #[a,b,c] t (0,0))):(w.setCell ⟨B,0,none⟩ u).heap[B]? =some (.cells #[u,b,c] t (0,0)):=by
 have:=heap_setCell_same w B 0 #[a,b,c] t u h;simpa using this
theorem three_set1 {w:World} {B:Nat} {a b c u:Value} {t:TypeId} (h:w.heap[B]? =some (.cells #[a,b,c] t (0,0))):(w.setCell ⟨B,1,none⟩ u).heap[B]? =some (.cells #[a,u,c] t (0,0)):=by
 have:=heap_setCell_same w B 1 #[a,b,c] t u h;simpa using this
theorem three_set2 {w:World} {B:Nat} {a b c u:Value} {t:TypeId} (h:w.heap[B]? =some (.cells #[a,b,c] t (0,0))):(w.setCell ⟨B,2,none⟩ u).heap[B]? =some (.cells #[a,b,u] t (0,0)):=by
 have:=heap_setCell_same w B 2 #[a,b,c] t u h;simpa using this
def drop0 (l:List UInt8):List UInt8:=l.dropWhile (fun c=>decide (c=48))
theorem drop0_len (l:List UInt8):(drop0 l).length≤l.length:=(List.dropWhile_sublist _).length_le
def cellLen (w:World) (a:Addr):Nat:=match w.cell? a with|some (.string s)=>s.size|_=>0
theorem cellLen_eq {w:World} {a:Addr} {m:List UInt8} (h:w.cell? a=some (.string (ofL m))):cellLen w a=m.length:=by unfold cellLen;rw[h];exact ofL_size m
def LeanInv (w:World) (mi:Bool) (m:List UInt8) (Y:Int) (wr:World):Prop:=
 wr.heap[w.heap.size]? =some (.cells #[.bool mi,.string (ofL m),.int .i64 Y] 194 (0,0))∧wr.heap[w.heap.size+1]? =some (.cells #[.bool false,.string ⟨#[]⟩,.int .i64 0] 194 (0,0))∧Fr (fun _=>False) w wr
theorem lean_any (mi:Bool) (l:List UInt8) (X:Int) (w:World) (hl:l.length≤4000000) (h1: -2000000000000≤X) (h2:X≤2000000000000):
 Calls Tryz.prog 181 #[.agg #[.bool mi,.string (ofL l),.int .i64 X]] w fun e w'=>e=.returned (.agg #[.bool mi,.string (ofL (strip (drop0 l))),.int .i64 (X+((drop0 l).length:Int)-((strip (drop0 l)).length:Int))])∧Fr (fun _=>False) w w':=by
 have hd0:=drop0_len l;go_enter Tryz.func181,Tryz.ntmps181;go_wp2
 have hst:=hid (show LeanInv w mi l X ((w.alloc (.cells #[.bool mi,.string (ofL l),.int .i64 X] 194)).alloc (.cells #[.bool false,.string ⟨#[]⟩,.int .i64 0] 194))from
  ⟨(Below.heap_alloc _ _ _ (by simp)).trans (heap_alloc_new w _),by have:=heap_alloc_new (w.alloc (.cells #[.bool mi,.string (ofL l),.int .i64 X] 194)) (.cells #[.bool false,.string ⟨#[]⟩,.int .i64 0] 194);rwa[World.size_alloc]at this,((Fr.refl _ w).alloc _).alloc _⟩)
 go_loopw [] (fun wr=>∃m,Hid (LeanInv w mi m X wr)∧m.length≤l.length∧Hid (drop0 m=drop0 l)) (fun wr=>cellLen wr ⟨w.heap.size,1,none⟩)
 case atStart=>exact⟨l,hst,Nat.le_refl _,hid rfl⟩
 case round=>
  clear hst;obtain⟨m,hI,hm,hD⟩:=hrel;obtain⟨i1,i2,i3⟩:=hI.out;have hc1:=three_cell1 i1;have hf1:=three_free (j:=1) i1;have I3:=hid i3;have I2:=hid i2;have I1:=hid i1;have hz:=ofL_size m;clear i1 i2 i3 hI;cases m with
  |nil=>
   have hne:(ofL []).toList.isEmpty=true:=by rw[ofL_toList];rfl
   have HD:=hD;go_wp2;have HD:Hid ([]=drop0 l):=by rw[Hid,←hD.out];rfl
   clear hD hne
   go_loopw [] (fun wr=>∃(p:List UInt8) (Y:Int),Hid (LeanInv w mi p Y wr)∧p.length≤l.length∧Hid (strip p=strip (drop0 l))∧Y+(p.length:Int)=X+((drop0 l).length:Int)) (fun wr=>cellLen wr ⟨w.heap.size,1,none⟩)
   case atStart=>exact⟨_,X,hid ⟨I1.out,I2.out,I3.out⟩,hm,hid (by rw[HD.out]),by rw[HD.out]⟩
   case round=>
    clear I1 I2 I3 hc1 hf1 hz HD hm;obtain⟨p,Y,hI,hp,hS,hY⟩:=hrel;obtain⟨i1,i2,i3⟩:=hI.out;have hc1:=three_cell1 i1;have hc2:=three_cell2 i1;have hf1:=three_free (j:=1) i1;have hf2:=three_free (j:=2) i1;have I3:=hid i3;have I2:=hid i2;have I1:=hid i1;clear hI
    have fin:strip p=p→∀wx,wx=wr→bodyPost Tryz.prog Tryz.f181 (fun e w'=>e=.returned (.agg #[.bool mi,.string (ofL (strip (drop0 l))),.int .i64 (X+((drop0 l).length:Int)-((strip (drop0 l)).length:Int))])∧Fr (fun _=>False) w w') Exit.ret
     {tmps:=#[],defers:=[]} wx→True:=fun _ _ _ _=>trivial
    clear fin;have hc0:=three_cell0 i1;have d0:=three_cell0 i2;have d1:=three_cell1 i2;have d2:=three_cell2 i2;have df0:=three_free (j:=0) i2;have df1:=three_free (j:=1) i2;have df2:=three_free (j:=2) i2;clear i1 i2 i3;rcases List.eq_nil_or_concat p with rfl|⟨q,c,rfl⟩
    ·have hne:(ofL []).toList.isEmpty=true:=by rw[ofL_toList];rfl
     have HR:=hid (show strip (drop0 l)=[] by rw[←hS.out];rfl);go_wp2;have hfin:=three_set2 (u:=.int .i64 Y) (three_set1 (u:=.string (ofL ([]))) (three_set0 (u:=.bool mi) I2.out));have e0:=three_cell0 hfin;have e1:=three_cell1 hfin;have e2:=three_cell2 hfin;refine bodyPost_ret (v:=.agg #[.bool mi,.string (ofL ([])),.int .i64 Y]) (by simp[results,Tryz.results181,go_sem,e0,e1,e2]) rfl ?_;refine⟨?_,((I3.out.setCell (.inr (by simp)) _).setCell (.inr (by simp)) _).setCell (.inr (by simp)) _⟩;rw[HR.out];congr 4;simp at*;omega
    ·rw[List.concat_eq_append]at hS hp hY hc1 I1
     have hz:(ofL (q++[c])).size=q.length+1:=by rw[ofL_size];simp
     have hne:(ofL (q++[c])).toList.isEmpty=false:=by rw[ofL_toList];simp
     have hg:(ofL (q++[c]))[q.length]'(by omega)=c:=by rw[ofL_get];simp
     have hx:(ofL (q++[c])).extract 0 q.length=ofL q:=by rw[ofL_extract];simp
     have hql:q.length≤4000000:=by simp at hp;omega
     have hql2:q.length+1≤l.length:=by simpa using hp
     have hY2:Y+((q.length:Int)+1)=X+((drop0 l).length:Int):=by simpa using hY
     by_cases hc:c=48
     ·subst hc
      have HS:=hid (show strip q=strip (drop0 l)from by rw[←hS.out,strip_zero]);clear hS hp hY;go_wp2;go_roundw
      case rel=>
       refine⟨q,Y+1,hid ⟨three_set2 (three_set1 I1.out),(Below.heap_setCell _ _ _ _ (by simp)).trans ((Below.heap_setCell _ _ _ _ (by simp)).trans I2.out),(I3.out.setCell (.inr (Nat.le_refl _)) _).setCell (.inr (Nat.le_refl _)) _⟩,by omega,HS,by omega⟩
      case measure=>
       rw[cellLen_eq (three_cell1 (three_set2 (three_set1 I1.out))),cellLen_eq hc1];simp
     ·have hcn:((c.toNat:Int)==48)=false:=beq_eq_false_iff_ne.2 (by have:=toNat_ne hc;simp at this;omega)
      have HR:=hid (show strip (drop0 l)=q++[c]from by rw[←hS.out,strip_no _ _ hc]);clear hS;go_wp2;have hfin:=three_set2 (u:=.int .i64 Y) (three_set1 (u:=.string (ofL (q++[c]))) (three_set0 (u:=.bool mi) I2.out));have e0:=three_cell0 hfin;have e1:=three_cell1 hfin;have e2:=three_cell2 hfin;refine bodyPost_ret (v:=.agg #[.bool mi,.string (ofL (q++[c])),.int .i64 Y]) (by simp[results,Tryz.results181,go_sem,e0,e1,e2]) rfl ?_;refine⟨?_,((I3.out.setCell (.inr (by simp)) _).setCell (.inr (by simp)) _).setCell (.inr (by simp)) _⟩;rw[HR.out];congr 4;simp at*;omega
  |cons c r=>
   have hne:(ofL (c::r)).toList.isEmpty=false:=by rw[ofL_toList];rfl
   have hg:(ofL (c::r))[0]'(by rw[ofL_size];simp)=c:=by rw[ofL_get];rfl
   have hx:(ofL (c::r)).extract 1 (r.length+1)=ofL r:=by rw[ofL_extract];simp
   have hz':(ofL (c::r)).size=r.length+1:=by rw[hz];simp
   have hrl:r.length+1≤l.length:=by simpa using hm
   by_cases hc:c=48
   ·subst hc
    have HD:=hid (show drop0 r=drop0 l from by rw[←hD.out];rfl);clear hz hD hm;go_wp2;go_roundw
    case rel=>exact⟨r,hid ⟨three_set1 I1.out,(Below.heap_setCell _ _ _ _ (by simp)).trans I2.out,I3.out.setCell (.inr (Nat.le_refl _)) _⟩,by omega,HD⟩
    case measure=>rw[cellLen_eq (three_cell1 (three_set1 I1.out)),cellLen_eq hc1];simp
   ·have hcn:((c.toNat:Int)==48)=false:=beq_eq_false_iff_ne.2 (by have:=toNat_ne hc;simp at this;omega)
    have HD:=hid (show c::r=drop0 l from by rw[←hD.out,drop0,List.dropWhile_cons,if_neg (by simpa using hc)]);clear hD;go_wp2;clear hne hg hx hz' hrl hcn
    go_loopw [] (fun wr=>∃(p:List UInt8) (Y:Int),Hid (LeanInv w mi p Y wr)∧p.length≤l.length∧Hid (strip p=strip (drop0 l))∧Y+(p.length:Int)=X+((drop0 l).length:Int)) (fun wr=>cellLen wr ⟨w.heap.size,1,none⟩)
    case atStart=>exact⟨_,X,hid ⟨I1.out,I2.out,I3.out⟩,hm,hid (by rw[HD.out]),by rw[HD.out]⟩
    case round=>
     clear I1 I2 I3 hc1 hf1 hz HD hm;obtain⟨p,Y,hI,hp,hS,hY⟩:=hrel;obtain⟨i1,i2,i3⟩:=hI.out;have hc1:=three_cell1 i1;have hc2:=three_cell2 i1;have hf1:=three_free (j:=1) i1;have hf2:=three_free (j:=2) i1;have I3:=hid i3;have I2:=hid i2;have I1:=hid i1;clear hI
     have fin:strip p=p→∀wx,wx=wr→bodyPost Tryz.prog Tryz.f181 (fun e w'=>e=.returned (.agg #[.bool mi,.string (ofL (strip (drop0 l))),.int .i64 (X+((drop0 l).length:Int)-((strip (drop0 l)).length:Int))])∧Fr (fun _=>False) w w') Exit.ret
      {tmps:=#[],defers:=[]} wx→True:=fun _ _ _ _=>trivial
     clear fin;have hc0:=three_cell0 i1;have d0:=three_cell0 i2;have d1:=three_cell1 i2;have d2:=three_cell2 i2;have df0:=three_free (j:=0) i2;have df1:=three_free (j:=1) i2;have df2:=three_free (j:=2) i2;clear i1 i2 i3;rcases List.eq_nil_or_concat p with rfl|⟨q,c,rfl⟩
     ·have hne:(ofL []).toList.isEmpty=true:=by rw[ofL_toList];rfl
      have HR:=hid (show strip (drop0 l)=[] by rw[←hS.out];rfl);go_wp2;have hfin:=three_set2 (u:=.int .i64 Y) (three_set1 (u:=.string (ofL ([]))) (three_set0 (u:=.bool mi) I2.out));have e0:=three_cell0 hfin;have e1:=three_cell1 hfin;have e2:=three_cell2 hfin;refine bodyPost_ret (v:=.agg #[.bool mi,.string (ofL ([])),.int .i64 Y]) (by simp[results,Tryz.results181,go_sem,e0,e1,e2]) rfl ?_;refine⟨?_,((I3.out.setCell (.inr (by simp)) _).setCell (.inr (by simp)) _).setCell (.inr (by simp)) _⟩;rw[HR.out];congr 4;simp at*;omega
     ·rw[List.concat_eq_append]at hS hp hY hc1 I1
      have hz:(ofL (q++[c])).size=q.length+1:=by rw[ofL_size];simp
      have hne:(ofL (q++[c])).toList.isEmpty=false:=by rw[ofL_toList];simp
      have hg:(ofL (q++[c]))[q.length]'(by omega)=c:=by rw[ofL_get];simp
      have hx:(ofL (q++[c])).extract 0 q.length=ofL q:=by rw[ofL_extract];simp
      have hql:q.length≤4000000:=by simp at hp;omega
      have hql2:q.length+1≤l.length:=by simpa using hp
      have hY2:Y+((q.length:Int)+1)=X+((drop0 l).length:Int):=by simpa using hY
      by_cases hc:c=48
      ·subst hc
       have HS:=hid (show strip q=strip (drop0 l)from by rw[←hS.out,strip_zero]);clear hS hp hY;go_wp2;go_roundw
       case rel=>
        refine⟨q,Y+1,hid ⟨three_set2 (three_set1 I1.out),(Below.heap_setCell _ _ _ _ (by simp)).trans ((Below.heap_setCell _ _ _ _ (by simp)).trans I2.out),(I3.out.setCell (.inr (Nat.le_refl _)) _).setCell (.inr (Nat.le_refl _)) _⟩,by omega,HS,by omega⟩
       case measure=>
        rw[cellLen_eq (three_cell1 (three_set2 (three_set1 I1.out))),cellLen_eq hc1];simp
      ·have hcn:((c.toNat:Int)==48)=false:=beq_eq_false_iff_ne.2 (by have:=toNat_ne hc;simp at this;omega)
       have HR:=hid (show strip (drop0 l)=q++[c]from by rw[←hS.out,strip_no _ _ hc]);clear hS;go_wp2;have hfin:=three_set2 (u:=.int .i64 Y) (three_set1 (u:=.string (ofL (q++[c]))) (three_set0 (u:=.bool mi) I2.out));have e0:=three_cell0 hfin;have e1:=three_cell1 hfin;have e2:=three_cell2 hfin;refine bodyPost_ret (v:=.agg #[.bool mi,.string (ofL (q++[c])),.int .i64 Y]) (by simp[results,Tryz.results181,go_sem,e0,e1,e2]) rfl ?_;refine⟨?_,((I3.out.setCell (.inr (by simp)) _).setCell (.inr (by simp)) _).setCell (.inr (by simp)) _⟩;rw[HR.out];congr 4;simp at*;omega
def TK (K:Nat) (q:Int):Nat:=p10 (q+K).toNat*p2 1074
theorem TK_pos (K:Nat) (q:Int):0<TK K q:=Nat.mul_pos (p10_pos _) (p2_pos _)
theorem TK_succ (K:Nat) (q:Int) (h: -(K:Int)≤q):TK K (q+1)=10*TK K q:=by
 unfold TK;rw[show(q+1+(K:Int)).toNat=(q+K).toNat+1 by omega,p10_succ,Nat.mul_comm (p10 _) 10,Nat.mul_assoc]
theorem TK_add (K:Nat) (q:Int) (j:Nat) (h: -(K:Int)≤q):TK K (q+j)=p10 j*TK K q:=by
 unfold TK;rw[show(q+j+(K:Int)).toNat=j+(q+K).toNat by omega,p10_add,Nat.mul_assoc]
theorem TK_le (K:Nat) {q r:Int} (h:q≤r):TK K q≤TK K r:=Nat.mul_le_mul_right _ (p10_le _ _ (by omega))
theorem cle_TK (K:Nat) (m c:Nat) (q:Int) (h: -(K:Int)≤q):CLe m c q↔c*TK K q≤p10 K*V m:=by
 unfold CLe TK;have hz:=p10_pos (K-(-q).toNat);have e1:p10 (q+K).toNat=p10 q.toNat*p10 (K-(-q).toNat):=by rw[←p10_add];congr 1;omega
 have e2:p10 K=p10 (-q).toNat*p10 (K-(-q).toNat):=by rw[←p10_add];congr 1;omega
 rw[e1,e2];generalize p10 (K-(-q).toNat)=z at*;generalize p10 q.toNat=a;generalize p10 (-q).toNat=b;generalize p2 1074=s;rw[show c*(a*z*s)=c*a*s*z by simp only[Nat.mul_left_comm,Nat.mul_comm],show b*z*V m=b*V m*z from Nat.mul_right_comm ..];exact(Nat.mul_le_mul_right_iff hz).symm
theorem rnd_T (K:Nat) (c:Nat) (q:Int) (n:Nat) (h: -(K:Int)≤q):RndAt c q n↔Rnd (c*TK K q) (p10 K) n:=by
 have e:p10 q.toNat*p10 K=p10 (q+K).toNat*p10 (-q).toNat:=by rw[←p10_add,←p10_add];congr 1;omega
 have e2:c*pP q*p10 K=c*TK K q*p10 (-q).toNat:=by
  unfold pP TK;rw[show c*(p10 q.toNat*p2 1074)*p10 K=c*p2 1074*(p10 q.toNat*p10 K) by simp only[Nat.mul_assoc,Nat.mul_left_comm,Nat.mul_comm],e];simp only[Nat.mul_assoc,Nat.mul_left_comm,Nat.mul_comm]
 exact⟨Rnd.cross (p10_pos _) (p10_pos _) e2,Rnd.cross (p10_pos _) (p10_pos _) e2.symm⟩
def InV (v gl gh:Nat) (e:Prop) (z:Nat):Prop:=(2*v<2*z+gl∨(2*v=2*z+gl∧e))∧(2*z<2*v+gh∨(2*z=2*v+gh∧e))
theorem rnd_In (P z n:Nat) (hn:n≠0):Rnd z P n↔InV (P*V n) (P*gapL n) (P*gapH n) (n % 2=0) z:=by
 have h1:=mid_low n hn;have h2:=mid_high n;have e1:mid (n-1)*P+P*gapL n=2*(P*V n):=by rw[Nat.mul_comm _ P,←Nat.mul_add,h1,Nat.mul_left_comm]
 have e2:mid n*P=2*(P*V n)+P*gapH n:=by rw[Nat.mul_comm _ P,h2,Nat.mul_add,Nat.mul_left_comm]
 unfold Rnd InV;rw[e2];generalize P*V n=v at*;generalize P*gapL n=gl at*;generalize P*gapH n=gh at*;generalize mid (n-1)*P=ml at*;constructor
 ·rintro⟨a,b⟩
  refine⟨?_,b⟩;rcases a with a|a|⟨a,c⟩
  ·exact absurd a hn
  ·left;omega
  ·right;exact⟨by omega,c⟩
 ·rintro⟨a,b⟩
  refine⟨?_,b⟩;rcases a with a|⟨a,c⟩
  ·right;left;omega
  ·right;right;exact⟨by omega,c⟩
def LowV (v c t:Nat):Prop:=2*v<2*(c*t)+t∨(2*v=2*(c*t)+t∧c % 2=0)
def Pk (v gl gh:Nat) (e:Prop) (c t D:Nat):Prop:=
 (InV v gl gh e (c*t)∧(¬InV v gl gh e (c*t+t)∨LowV v c t)∧D=c)∨(InV v gl gh e (c*t+t)∧(¬InV v gl gh e (c*t)∨¬LowV v c t)∧D=c+1)
theorem Inv.floorT {n dg:Nat} {pw:Int} {R L H U:Nat} (K:Nat) (h:Inv n dg pw R L H U) (hK: -(K:Int)≤pw):(dg*U+R)*TK K pw=p10 K*V n*U:=by
 have e:p10 pw.toNat*p10 K=p10 (pw+K).toNat*p10 (-pw).toNat:=by rw[←p10_add,←p10_add];congr 1;omega
 have ha:=h.a;unfold pP pQ at ha;refine Nat.eq_of_mul_eq_mul_right (p10_pos (-pw).toNat) ?_;unfold TK;generalize p2 1074=s at*;generalize dg*U+R=d at*;rw[show d*(p10 (pw+K).toNat*s)*p10 (-pw).toNat=d*s*(p10 (pw+K).toNat*p10 (-pw).toNat) by simp only[Nat.mul_assoc,Nat.mul_left_comm,Nat.mul_comm],←e];rw[show d*s*(p10 pw.toNat*p10 K)=d*(p10 pw.toNat*s)*p10 K by simp only[Nat.mul_assoc,Nat.mul_left_comm,Nat.mul_comm],ha];simp only[Nat.mul_assoc,Nat.mul_left_comm,Nat.mul_comm]
theorem Inv.floor {n dg:Nat} {pw:Int} {R L H U:Nat} (K:Nat) (h:Inv n dg pw R L H U) (hK: -(K:Int)≤pw):
 dg*TK K pw≤p10 K*V n∧p10 K*V n<dg*TK K pw+TK K pw∧(lowF dg R U=true↔LowV (p10 K*V n) dg (TK K pw)):=by
 have e:=h.floorT K hK;have hr:=h.r;have hu:=h.upos;have ht:=TK_pos K pw;unfold LowV;generalize TK K pw=t at*;generalize p10 K*V n=v at*;have e2:dg*t*U+R*t=v*U:=by rw[←e,Nat.add_mul,Nat.mul_right_comm]
 have hRt:R*t<U*t:=Nat.mul_lt_mul_of_pos_right hr ht;have eU:U*t=t*U:=Nat.mul_comm ..;refine⟨?_,?_,?_⟩
 ·refine Nat.le_of_mul_le_mul_right (c:=U) ?_ hu
  omega
 ·refine Nat.lt_of_mul_lt_mul_right (a:=U) ?_
  rw[Nat.add_mul];omega
 ·have k1:R<U-R↔2*v<2*(dg*t)+t:=by
   have a1:R<U-R↔2*R<U:=by omega
   have a2:2*R<U↔2*R*t<U*t:=(Nat.mul_lt_mul_right ht).symm;have a3:2*v<2*(dg*t)+t↔2*v*U<(2*(dg*t)+t)*U:=(Nat.mul_lt_mul_right hu).symm;rw[a1,a2,a3,Nat.add_mul,Nat.mul_assoc 2 v,Nat.mul_assoc 2 (dg*t),Nat.mul_assoc 2 R];omega
  have k2:R=U-R↔2*v=2*(dg*t)+t:=by
   have a1:R=U-R↔2*R=U:=by omega
   have a2:2*R=U↔2*R*t=U*t:=(Nat.mul_left_inj (by omega)).symm;have a3:2*v=2*(dg*t)+t↔2*v*U=(2*(dg*t)+t)*U:=(Nat.mul_left_inj (by omega)).symm;rw[a1,a2,a3,Nat.add_mul,Nat.mul_assoc 2 v,Nat.mul_assoc 2 (dg*t),Nat.mul_assoc 2 R];omega
  unfold lowF;simp only[Bool.or_eq_true,Bool.and_eq_true,decide_eq_true_eq,k1,k2]
theorem Short.pk {n D:Nat} {pw:Int} (K:Nat) (h:Short n D pw) (hn:n≠0) (hK: -(K:Int)≤pw):
 ∃dg,dg*TK K pw≤p10 K*V n∧p10 K*V n<dg*TK K pw+TK K pw∧Pk (p10 K*V n) (p10 K*gapL n) (p10 K*gapH n) (n % 2=0) dg (TK K pw) D∧
  (dg=0∨∀c,¬InV (p10 K*V n) (p10 K*gapL n) (p10 K*gapH n) (n % 2=0) (c*TK K (pw+1))):=by
 obtain⟨dg,R,L,H,U,hI,hp,hpr⟩:=h;obtain⟨f1,f2,f3⟩:=hI.floor K hK
 have r1:wi R L (ev n)=true↔InV (p10 K*V n) (p10 K*gapL n) (p10 K*gapH n) (n % 2=0) (dg*TK K pw):=by
  rw[←rnd_In _ _ _ hn,←rnd_T K dg pw n hK,hI.low hn (Nat.le_refl _),Nat.sub_self,Nat.zero_mul,Nat.add_zero]
 have r2:wi (U-R) H (ev n)=true↔InV (p10 K*V n) (p10 K*gapL n) (p10 K*gapH n) (n % 2=0) (dg*TK K pw+TK K pw):=by
  rw[←rnd_In _ _ _ hn,show dg*TK K pw+TK K pw=(dg+1)*TK K pw from(Nat.succ_mul _ _).symm,←rnd_T K (dg+1) pw n hK,hI.high hn (Nat.lt_succ_self _),show dg+1-dg=1 by omega,Nat.one_mul]
 refine⟨dg,f1,f2,?_,?_⟩
 ·unfold Pk
  rw[←r1,←r2,←f3];unfold pickF at hp;cases h1:wi R L (ev n)<;>cases h2:wi (U-R) H (ev n)<;>rw[h1,h2]at hp<;>simp only at hp
  ·simp at hp
  ·simp at hp;right;simp[hp]
  ·simp at hp;left;simp[hp]
  ·cases h3:lowF dg R U<;>rw[h3]at hp<;>simp at hp
   ·right;simp[hp]
   ·left;simp[hp]
 ·rcases hpr with h0|h0
  ·exact .inl h0
  ·right
   intro c;rw[←rnd_In _ _ _ hn,←rnd_T K c (pw+1) n (by omega)];exact h0.none hn c
theorem gaps (n:Nat) (hn:n≠0):gapL n≤gapH n∧0<gapL n∧V n≤9007199254740992*gapL n∧gapH n≤V n∧(V n<100*gapH n→V n=n∧gapH n=1):=by
 have hH:=gapH_eq n;have hL:=gapL_eq n hn;have hV:=manE_V n;obtain⟨h1,h2⟩:=manE_eq n;have hp:=p2_pos (manE n).2;unfold lowQ at hL;rw[hV,hH];have hm1:1≤(manE n).1:=by omega
 have hbig:p2 (manE n).2≤(manE n).1*p2 (manE n).2:=Nat.le_mul_of_pos_left _ hm1;have hup:(manE n).1*p2 (manE n).2≤9007199254740992*p2 (manE n).2:=Nat.mul_le_mul_right _ (by omega)
 have hsm:(manE n).1*p2 (manE n).2<100*p2 (manE n).2→(manE n).1*p2 (manE n).2=n∧p2 (manE n).2=1:=by
  intro h;have h3:=Nat.lt_of_mul_lt_mul_right h;have hE:(manE n).2=0:=by omega
  rw[hE]at h1 ⊢;rw[show p2 0=1 from rfl];omega
 by_cases hb:(manE n).1=4503599627370496∧0<(manE n).2
 ·rw[if_pos hb]at hL
  have e:(manE n).1*p2 (manE n).2=4503599627370496*p2 (manE n).2:=by rw[hb.1]
  refine⟨by omega,by omega,by omega,hbig,hsm⟩
 ·rw[if_neg hb]at hL
  refine⟨by omega,by omega,by omega,hbig,hsm⟩
theorem p10_e:19*p2 1074<4*p10 324:=by decide+kernel
theorem tiny {K n:Nat} {x:Int} (hK:324≤K) (hx: -(K:Int)≤x) (hP:TK K x≤p10 K) (hv:p10 K*n<10*TK K x) (hn:0<n):∃y,0<y∧TK K x=y*p2 1074∧p10 K=y*p10 324:=by
 obtain⟨d1,d2,_⟩:=p10_d;have hs:=p2_pos 1074;have hk:p10 K=p10 (K-324)*p10 324:=by rw[←p10_add];congr 1;omega
 have e1:∀a:Nat,p10 (K-324+a)=p10 a*p10 (K-324):=by intro a;rw[p10_add,Nat.mul_comm]
 have hy:=p10_pos (K-324)
 have hxx:x= -324:=by
  rcases Int.lt_trichotomy x (-324)with h|h|h
  ·exfalso
   have h1:10*TK K x≤p10 (K-324)*p2 1074:=by
    rw[←TK_succ K x hx];unfold TK;exact Nat.mul_le_mul_right _ (p10_le _ _ (by omega))
   have h2:p10 K≤p10 K*n:=Nat.le_mul_of_pos_right _ hn;have h3:p10 (K-324)*p10 324<p10 (K-324)*p2 1074:=by omega
   have h4:=Nat.lt_of_mul_lt_mul_left h3;omega
  ·exact h
  ·exfalso
   have h1:p10 (K-324+1)*p2 1074≤TK K x:=by
    unfold TK;exact Nat.mul_le_mul_right _ (p10_le _ _ (by omega))
   rw[e1,show p10 1=10 from rfl]at h1
   have h3:p10 (K-324)*(10*p2 1074)≤p10 (K-324)*p10 324:=by
    rw[←hk,Nat.mul_left_comm,←Nat.mul_assoc];omega
   have h4:=Nat.le_of_mul_le_mul_left h3 hy;omega
 refine⟨p10 (K-324),hy,?_,hk⟩;unfold TK;rw[hxx,show((-324:Int)+K).toNat=K-324 by omega]
theorem ten_above {K n c:Nat} {x:Int} (hn:n≠0) (hK:324≤K) (hx: -(K:Int)≤x) (h2:p10 K*V n<10*TK K x) (hc1:c*TK K x≤p10 K*V n) (hc2:p10 K*V n<c*TK K x+TK K x)
 (hI:InV (p10 K*V n) (p10 K*gapL n) (p10 K*gapH n) (n % 2=0) (10*TK K x)):
 c=9∧¬(InV (p10 K*V n) (p10 K*gapL n) (p10 K*gapH n) (n % 2=0) (9*TK K x)∧LowV (p10 K*V n) 9 (TK K x)):=by
 obtain⟨g1,g2,g3,g4,g5⟩:=gaps n hn;obtain⟨d1,d2,d3⟩:=p10_d;have d4:=p10_e;have hs:=p2_pos 1074;have hP:=p10_pos K;have ht:=TK_pos K x
 have hIn:20*TK K x≤2*(p10 K*V n)+p10 K*gapH n:=by
  rcases hI.2 with h|⟨h,_⟩<;>omega
 --all numbers with a great gap are small ones
 have small:p10 K*V n<10*(p10 K*gapH n)→V n=n∧gapH n=1:=by
  intro h;refine g5 ?_;have:p10 K*V n<p10 K*(10*gapH n):=by rw[Nat.mul_left_comm];exact h
  have:=Nat.lt_of_mul_lt_mul_left this;omega
 have hc10:c<10:=by
  rcases Nat.lt_or_ge c 10 with h|h
  ·exact h
  ·have:=Nat.mul_le_mul_right (TK K x) h
   omega
 have h9:c=9:=by
  rcases Nat.lt_or_ge c 9 with h|h
  ·exfalso
   have hv9:p10 K*V n<9*TK K x:=by
    have:(c+1)*TK K x≤9*TK K x:=Nat.mul_le_mul_right _ (by omega);rw[Nat.add_mul,Nat.one_mul]at this;omega
   obtain⟨e1,e2⟩:=small (by omega);rw[e1]at hIn hv9;rw[e2]at hIn;obtain⟨y,hy,t1,t2⟩:=tiny hK hx (by omega) (by omega) (Nat.pos_of_ne_zero hn);rw[t1,t2]at hv9 hIn;clear hI hc1 hc2 h2;generalize p2 1074=s at*;generalize p10 324=N at*;rw[Nat.mul_left_comm,Nat.mul_assoc y]at hv9;have k1:N*n<9*s:=Nat.lt_of_mul_lt_mul_left hv9
   have k2:20*s≤2*(N*n)+N:=by
    refine Nat.le_of_mul_le_mul_left (c:=y) ?_ hy;rw[Nat.mul_add,Nat.mul_left_comm y 20,Nat.mul_left_comm y 2,←Nat.mul_assoc y N];omega
   have n2:n≤2:=by
    rcases Nat.lt_or_ge 2 n with h3|h3
    ·have:N*3≤N*n:=Nat.mul_le_mul_left _ h3
     omega
    ·exact h3
   have:n=1∨n=2:=by omega
   rcases this with rfl|rfl<;>omega
  ·omega
 refine⟨h9,?_⟩;rintro⟨i1,i2⟩
 have i3:2*(p10 K*V n)≤18*TK K x+p10 K*gapL n:=by
  rcases i1.1 with h|⟨h,_⟩<;>omega
 have i4:2*(p10 K*V n)≤19*TK K x:=by
  rcases i2 with h|⟨h,_⟩<;>omega
 have g6:p10 K*gapL n≤p10 K*gapH n:=Nat.mul_le_mul_left _ g1;obtain⟨e1,e2⟩:=small (by omega);rw[h9]at hc1;rw[e1]at i4 hc1 h2 i3 hIn;rw[e2]at hIn g6;obtain⟨y,hy,t1,t2⟩:=tiny hK hx (by omega) (by omega) (Nat.pos_of_ne_zero hn);rw[t1,t2]at h2 hc1 i4;clear hI i1 i2 hc2;generalize p2 1074=s at*;generalize p10 324=N at*
 have k1:N*n<10*s:=by
  refine Nat.lt_of_mul_lt_mul_left (a:=y) ?_;rw[Nat.mul_left_comm y 10,←Nat.mul_assoc y N];exact h2
 have k2:9*s≤N*n:=by
  refine Nat.le_of_mul_le_mul_left (c:=y) ?_ hy;rw[Nat.mul_left_comm y 9,←Nat.mul_assoc y N];exact hc1
 have k3:2*(N*n)≤19*s:=by
  refine Nat.le_of_mul_le_mul_left (c:=y) ?_ hy;rw[Nat.mul_left_comm y 19,Nat.mul_left_comm y 2,←Nat.mul_assoc y N];exact i4
 have n2:n≤2:=by
  rcases Nat.lt_or_ge 2 n with h3|h3
  ·have:N*3≤N*n:=Nat.mul_le_mul_left _ h3
   omega
  ·exact h3
 have:n=1∨n=2:=by omega
 rcases this with rfl|rfl<;>omega
theorem p10_16:p10 16=10000000000000000:=by decide+kernel
theorem near17 {K n c:Nat} {x:Int} (hn:n≠0) (hx: -(K:Int)≤x-16) (h1:TK K x≤p10 K*V n) (hc1:c*TK K (x-16)≤p10 K*V n) (hc2:p10 K*V n<c*TK K (x-16)+TK K (x-16)):
 (LowV (p10 K*V n) c (TK K (x-16))→InV (p10 K*V n) (p10 K*gapL n) (p10 K*gapH n) (n % 2=0) (c*TK K (x-16)))∧
 (¬LowV (p10 K*V n) c (TK K (x-16))→InV (p10 K*V n) (p10 K*gapL n) (p10 K*gapH n) (n % 2=0) (c*TK K (x-16)+TK K (x-16))):=by
 obtain⟨g1,g2,g3,g4,g5⟩:=gaps n hn;have hP:=p10_pos K
 have e:TK K x=10000000000000000*TK K (x-16):=by
  rw[←p10_16,←TK_add K (x-16) 16 hx];congr 1;omega
 have g6:p10 K*gapL n≤p10 K*gapH n:=Nat.mul_le_mul_left _ g1;have g7:0<p10 K*gapL n:=Nat.mul_pos hP g2;have g8:p10 K*V n≤9007199254740992*(p10 K*gapL n):=by rw[Nat.mul_left_comm];exact Nat.mul_le_mul_left _ g3
 unfold LowV InV;generalize TK K (x-16)=t at*;generalize p10 K*V n=v at*;generalize p10 K*gapL n=gl at*;generalize p10 K*gapH n=gh at*;generalize c*t=z at*;have hlt:t<gl:=by omega
 constructor
 ·intro h
  exact⟨.inl (by rcases h with h|⟨h,_⟩<;>omega),.inl (by omega)⟩
 ·intro h
  have:2*z+t≤2*v:=by
   rcases Nat.lt_or_ge (2*v) (2*z+t)with h3|h3
   ·exact absurd (Or.inl h3) h
   ·exact h3
  exact⟨.inl (by omega),.inl (by omega)⟩
theorem InV.mul {v gl gh:Nat} {e:Prop} {c t t' p:Nat} (ht:t'=p*t) (h:InV v gl gh e (c*t')):InV v gl gh e (c*p*t):=by
 rwa[Nat.mul_assoc,←ht]
theorem floor_uniq {v t a b:Nat} (a1:a*t≤v) (a2:v<a*t+t) (b1:b*t≤v) (b2:v<b*t+t):a=b:=by
 rcases Nat.lt_trichotomy a b with h|h|h
 ·exfalso
  have:(a+1)*t≤b*t:=Nat.mul_le_mul_right _ h;rw[Nat.add_mul,Nat.one_mul]at this;omega
 ·exact h
 ·exfalso
  have:(b+1)*t≤a*t:=Nat.mul_le_mul_right _ h;rw[Nat.add_mul,Nat.one_mul]at this;omega
theorem Short.where_ {n D K:Nat} {pw x:Int} {c:Nat→Nat} (h:Short n D pw) (hn:n≠0) (hp: -(K:Int)≤pw) (hx: -(K:Int)≤x-16) (h1:TK K x≤p10 K*V n) (h2:p10 K*V n<10*TK K x)
 (hc:∀j:Nat,1≤j→j≤17→c j*TK K (x+1-j)≤p10 K*V n∧p10 K*V n<c j*TK K (x+1-j)+TK K (x+1-j)):
 (D=1∧pw=x+1∧InV (p10 K*V n) (p10 K*gapL n) (p10 K*gapH n) (n % 2=0) (10*TK K x))∨
 ∃k:Nat,1≤k∧k≤17∧pw=x+1-k∧Pk (p10 K*V n) (p10 K*gapL n) (p10 K*gapH n) (n % 2=0) (c k) (TK K (x+1-k)) D∧
  ∀j:Nat,1≤j→j<k→∀d,¬InV (p10 K*V n) (p10 K*gapL n) (p10 K*gapH n) (n % 2=0) (d*TK K (x+1-j)):=by
 obtain⟨dg,f1,f2,hpk,hpr⟩:=h.pk K hn hp;obtain⟨g1,g2,g3,g4,g5⟩:=gaps n hn;have hP:=p10_pos K;have hVn:p10 K*gapH n≤p10 K*V n:=Nat.mul_le_mul_left _ g4;by_cases h0:dg=0
 ·left
  subst h0;rw[Nat.zero_mul,Nat.zero_add]at f2
  have i0:¬InV (p10 K*V n) (p10 K*gapL n) (p10 K*gapH n) (n % 2=0) (0*TK K pw):=by
   rw[Nat.zero_mul];have:p10 K*gapL n≤p10 K*gapH n:=Nat.mul_le_mul_left _ g1;have:=Nat.mul_pos hP (show 0<V n by omega);rintro⟨a,_⟩;rcases a with a|⟨a,_⟩<;>omega
  rcases hpk with⟨a,_⟩|⟨a,_,b⟩
  ·exact absurd a i0
  ·rw[Nat.zero_mul,Nat.zero_add]at a
   have hx1:x+1≤pw:=by
    rcases Int.lt_or_le pw (x+1)with h|h
    ·have:=TK_le K (show pw≤x by omega);omega
    ·exact h
   have hx2:pw≤x+1:=by
    rcases Int.lt_or_le (x+1) pw with h|h
    ·have e1:=TK_le K (show x+2≤pw by omega)
     have e2:=TK_succ K (x+1) (by omega);have e3:=TK_succ K x (by omega);rw[show x+1+1=x+2 by omega]at e2;have:2*TK K pw≤2*(p10 K*V n)+p10 K*gapH n:=by rcases a.2 with h|⟨h,_⟩<;>omega
     omega
    ·exact h
   have e:pw=x+1:=by omega
   rw[e,TK_succ K x (by omega)]at a;exact⟨b,e,a⟩
 ·right
  have hno:=hpr.resolve_left h0;have hd1:TK K pw≤dg*TK K pw:=Nat.le_mul_of_pos_left _ (Nat.pos_of_ne_zero h0)
  have hx1:pw≤x:=by
   rcases Int.lt_or_le x pw with h|h
   ·have e1:=TK_le K (show x+1≤pw by omega)
    have e3:=TK_succ K x (by omega);omega
   ·exact h
  have key:∀q:Int,pw<q→∀d,¬InV (p10 K*V n) (p10 K*gapL n) (p10 K*gapH n) (n % 2=0) (d*TK K q):=by
   intro q hq d hI;have e:=TK_add K (pw+1) (q-(pw+1)).toNat (by omega);rw[show pw+1+((q-(pw+1)).toNat:Int)=q by omega]at e;exact hno _ (hI.mul e)
  have hx2:x-16≤pw:=by
   rcases Int.lt_or_le pw (x-16)with h|h
   ·exfalso
    obtain⟨b1,b2⟩:=hc 17 (by omega) (by omega);rw[show x+1-((17:Nat):Int)=x-16 by omega]at b1 b2;obtain⟨n1,n2⟩:=near17 hn hx h1 b1 b2;by_cases hl:LowV (p10 K*V n) (c 17) (TK K (x-16))
    ·exact key _ h _ (n1 hl)
    ·have:=n2 hl
     rw[show c 17*TK K (x-16)+TK K (x-16)=(c 17+1)*TK K (x-16)from(Nat.succ_mul _ _).symm]at this;exact key _ h _ this
   ·exact h
  obtain⟨k,hk⟩:∃k:Nat,pw=x+1-k:=⟨(x+1-pw).toNat,by omega⟩;obtain⟨b1,b2⟩:=hc k (by omega) (by omega);rw[hk]at hpk f1 f2;have:=floor_uniq f1 f2 b1 b2;rw[this]at hpk;refine⟨k,by omega,by omega,hk,hpk,?_⟩;intro j hj1 hj2 d;exact key _ (by omega) d
theorem succ_t (c t:Nat):c*t+t=(c+1)*t:=(Nat.succ_mul _ _).symm
theorem Pk.some {v gl gh:Nat} {e:Prop} {c t D:Nat} (h:Pk v gl gh e c t D):InV v gl gh e (c*t)∨InV v gl gh e (c*t+t):=by
 rcases h with⟨a,_⟩|⟨a,_⟩
 ·exact .inl a
 ·exact .inr a
theorem Short.ref {n D K i:Nat} {pw x:Int} {c:Nat→Nat} (h:Short n D pw) (hn:n≠0) (hK:324≤K) (hp: -(K:Int)≤pw) (hx: -(K:Int)≤x-16) (h1:TK K x≤p10 K*V n) (h2:p10 K*V n<10*TK K x)
 (hc:∀j:Nat,1≤j→j≤17→c j*TK K (x+1-j)≤p10 K*V n∧p10 K*V n<c j*TK K (x+1-j)+TK K (x+1-j)) (hi1:1≤i) (hi2:i≤17)
 (hno:∀j:Nat,1≤j→j<i→¬InV (p10 K*V n) (p10 K*gapL n) (p10 K*gapH n) (n % 2=0) (c j*TK K (x+1-j))∧¬InV (p10 K*V n) (p10 K*gapL n) (p10 K*gapH n) (n % 2=0) (c j*TK K (x+1-j)+TK K (x+1-j))):
 (InV (p10 K*V n) (p10 K*gapL n) (p10 K*gapH n) (n % 2=0) (c i*TK K (x+1-i))→(¬InV (p10 K*V n) (p10 K*gapL n) (p10 K*gapH n) (n % 2=0) (c i*TK K (x+1-i)+TK K (x+1-i))∨LowV (p10 K*V n) (c i) (TK K (x+1-i)))→c i=D∧x+1-i=pw)∧
 (InV (p10 K*V n) (p10 K*gapL n) (p10 K*gapH n) (n % 2=0) (c i*TK K (x+1-i)+TK K (x+1-i))→(¬InV (p10 K*V n) (p10 K*gapL n) (p10 K*gapH n) (n % 2=0) (c i*TK K (x+1-i))∨¬LowV (p10 K*V n) (c i) (TK K (x+1-i)))→(c i+1=D∧x+1-i=pw)∨(i=1∧c i=9∧D=1∧pw=x+1))∧
 (i=17→(LowV (p10 K*V n) (c i) (TK K (x-16))→c i=D∧x-16=pw)∧(¬LowV (p10 K*V n) (c i) (TK K (x-16))→c i+1=D∧x-16=pw)):=by
 rcases h.where_ hn hp hx h1 h2 hc with⟨hD,hpw,hI⟩|⟨k,hk1,hk2,hpw,hpk,hbelow⟩
 ·obtain⟨b1,b2⟩:=hc 1 (by omega) (by omega)
  rw[show x+1-((1:Nat):Int)=x by omega]at b1 b2;obtain⟨c9,nlow⟩:=ten_above hn hK (by omega) h2 b1 b2 hI
  have hi:i=1:=by
   rcases Nat.lt_or_ge 1 i with h|h
   ·exfalso
    have:=(hno 1 (by omega) h).2;rw[show x+1-((1:Nat):Int)=x by omega,c9,succ_t]at this;exact this hI
   ·omega
  subst hi;rw[show x+1-((1:Nat):Int)=x by omega,c9];refine⟨fun a b=>?_,fun a b=>.inr ⟨rfl,rfl,hD,hpw⟩,fun h=>absurd h (by omega)⟩;exfalso;rcases b with b|b
  ·rw[succ_t]at b;exact b hI
  ·exact nlow ⟨a,b⟩
 ·have hik:(InV (p10 K*V n) (p10 K*gapL n) (p10 K*gapH n) (n % 2=0) (c i*TK K (x+1-i))∨InV (p10 K*V n) (p10 K*gapL n) (p10 K*gapH n) (n % 2=0) (c i*TK K (x+1-i)+TK K (x+1-i)))→i=k:=by
   intro hor;rcases Nat.lt_trichotomy i k with h|h|h
   ·exfalso
    rcases hor with a|a
    ·exact hbelow i hi1 h _ a
    ·rw[succ_t]at a;exact hbelow i hi1 h _ a
   ·exact h
   ·exfalso
    have:=hno k hk1 h;rcases hpk.some with a|a
    ·exact this.1 a
    ·exact this.2 a
  refine⟨fun a b=>?_,fun a b=>?_,fun h=>?_⟩
  ·have e:=hik (.inl a)
   subst e;rcases hpk with⟨p1,p2,p3⟩|⟨p1,p2,p3⟩
   ·exact⟨p3.symm,hpw.symm⟩
   ·exfalso
    rcases p2 with p2|p2
    ·exact p2 a
    ·rcases b with b|b
     ·exact b p1
     ·exact p2 b
  ·left
   have e:=hik (.inr a);subst e;rcases hpk with⟨p1,p2,p3⟩|⟨p1,p2,p3⟩
   ·exfalso
    rcases b with b|b
    ·exact b p1
    ·rcases p2 with p2|p2
     ·exact p2 a
     ·exact b p2
   ·exact⟨p3.symm,hpw.symm⟩
  ·subst h
   have e17:x+1-((17:Nat):Int)=x-16:=by omega
   obtain⟨b1,b2⟩:=hc 17 (by omega) (by omega);rw[e17]at b1 b2 hik;obtain⟨n1,n2⟩:=near17 hn hx h1 b1 b2
   have hk:k=17:=by
    by_cases hl:LowV (p10 K*V n) (c 17) (TK K (x-16))
    ·exact(hik (.inl (n1 hl))).symm
    ·exact(hik (.inr (n2 hl))).symm
   subst hk;rw[e17]at hpk hpw;refine⟨fun hl=>?_,fun hl=>?_⟩
   ·rcases hpk with⟨p1,p2,p3⟩|⟨p1,p2,p3⟩
    ·exact⟨p3.symm,hpw.symm⟩
    ·exfalso
     rcases p2 with p2|p2
     ·exact p2 (n1 hl)
     ·exact p2 hl
   ·rcases hpk with⟨p1,p2,p3⟩|⟨p1,p2,p3⟩
    ·exfalso
     rcases p2 with p2|p2
     ·exact p2 (n2 hl)
     ·exact hl p2
    ·exact⟨p3.symm,hpw.symm⟩
theorem snoc_indB {P:List UInt8→Prop} (h0:P []) (h:∀a x,P a→P (a++[x])) (l:List UInt8):P l:=by
 rw[←List.reverse_reverse l];generalize l.reverse=r
 induction r with
 |nil=>exact h0
 |cons c r ih=>rw[List.reverse_cons];exact h _ _ ih
theorem dgs_of {l:List UInt8} (hA:AllD l) (h0:l≠[]) (hH:l.head? ≠some 48):l=dgs (num (dv l)):=by
 refine snoc_indB (P:=fun l=>AllD l→l≠[]→l.head? ≠some 48→l=dgs (num (dv l))) ?_ ?_ l hA h0 hH
 ·intro _ h;exact absurd rfl h
 ·intro l c ih hA _ hH
  have hc:isD c=true:=hA c (by simp);have hl:AllD l:=fun x hx=>hA x (by simp[hx])
  unfold isD at hc;simp at hc
  have ec:c=UInt8.ofNat (48+(c.toNat-48)):=by
   apply UInt8.toNat_inj.1;rw[ofNat_byte _ (by omega)];omega
  have en:num (dv (l++[c]))=num (dv l)*10+(c.toNat-48):=by
   rw[dv_append]
   show num (dv l++[c.toNat-48])=_
   rw[num_snoc]
  rw[en];by_cases hn:l=[]
  ·subst hn
   rw[show num (dv [])=0 from rfl,dgs_lt (by omega),Nat.zero_mul,Nat.zero_add,←ec];rfl
  ·have hH':l.head? ≠some 48:=by rwa[head_app hn]at hH
   have e:=ih hl hn hH'
   have hpos:1≤num (dv l):=by
    have:=num_top l hl hn hH';have:=p10_pos (l.length-1);omega
   rw[dgs_ge (by omega),show(num (dv l)*10+(c.toNat-48))/10=num (dv l) by omega,show(num (dv l)*10+(c.toNat-48)) % 10=c.toNat-48 by omega,←e,←ec]
theorem drop0_dgs (D:Nat) (h0:D≠0):drop0 (dgs D)=dgs D:=by
 have:=dgs_head D h0;unfold drop0;cases h:dgs D with
 |nil=>rfl
 |cons c r=>
  rw[h]at this;rw[List.dropWhile_cons,if_neg];simpa using this
theorem strip_last {l:List UInt8} (h:l.getLast? ≠some 48):strip l=l:=by
 unfold strip;cases hr:l.reverse with
 |nil=>rw[List.dropWhile_nil,←hr,List.reverse_reverse]
 |cons c r=>
  have:c≠48:=by
   intro e;apply h;rw[List.getLast?_eq_head?_reverse,hr,e];rfl
  rw[List.dropWhile_cons,if_neg (by simpa using this),←hr,List.reverse_reverse]
theorem DInv.take {m:Nat} {l:List UInt8} {x:Int} (K:Nat) (hx: -(K:Int)≤x-16) (h:DInv m l 17 (x-16)) (j:Nat) (h1:1≤j) (h2:j≤17):
 num (dv (l.take j))*TK K (x+1-j)≤p10 K*V m∧p10 K*V m<num (dv (l.take j))*TK K (x+1-j)+TK K (x+1-j):=by
 obtain⟨hA,hL,hlo,hhi⟩:=h;rw[cle_TK K _ _ _ hx]at hlo hhi
 have e:TK K (x+1-j)=p10 (17-j)*TK K (x-16):=by
  rw[←TK_add K (x-16) (17-j) hx];congr 1;omega
 have el:num (dv l)=num (dv (l.take j))*p10 (17-j)+num (dv (l.drop j)):=by
  conv=>lhs;rw[←List.take_append_drop j l,dv_append,num_append]
  rw[dv_length,List.length_drop,hL]
 have hr:num (dv (l.drop j))<p10 (17-j):=by
  have:=num_lt _ (hA.drop j).digs;rwa[dv_length,List.length_drop,hL]at this
 rw[e];generalize num (dv (l.take j))=c at*;generalize num (dv (l.drop j))=r at*;generalize p10 (17-j)=p at*;generalize TK K (x-16)=t at*;have e1:c*(p*t)=c*p*t:=(Nat.mul_assoc ..).symm;rw[e1];rw[el]at hlo hhi;constructor
 ·refine Nat.le_trans (Nat.mul_le_mul_right t (Nat.le_add_right _ r)) hlo
 ·rw[←Nat.add_mul]
  refine Nat.lt_of_lt_of_le (Nat.lt_of_not_le hhi) (Nat.mul_le_mul_right t ?_);omega
end Go.Proofs.YtmkkibaacclhnaaGreatDoor
