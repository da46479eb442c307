/-
  A step of the walk, the part named Xfg. No theorem of the row.
-/
import Derived.Test.YtmkkibaacclhnaaGreatDoorXcd
import Derived.Test.YtmkkibaacclhnaaGreatDoorBgk
import Derived.Deep.DeepCutAuto
import Derived.Deep.RegionHeld3
namespace Go.Proofs.YtmkkibaacclhnaaGreatDoor
open Go.RowKit
set_option maxRecDepth 100000
set_option maxHeartbeats 16000000
theorem rdecimal_any (n:Nat) (hn:n<9007199254740992) (w:World):
 Calls Tryz.prog 134 #[.int .i64 n] w fun e w'=>e=.returned (.string (ofL (dgs n)))∧w'=w:=by
 induction n using Nat.strongRecOn generalizing w with
 |_ n ih=>
  have hsl:=dec_slice (n % 10) (by omega);by_cases h:n<10
  ·go_enter Tryz.func134,Tryz.ntmps134
   go_wp2;go_ret;refine⟨?_,rfl⟩;rw[dgs_lt h,←show n % 10=n from by omega,←hsl,show n % 10 % 10=n % 10 from by omega];rfl
  ·have hi:=ih (n/10) (by omega) (by omega)
   go_enter Tryz.func134,Tryz.ntmps134;have hz1:(ofL (dgs (n/10))).size≤20:=by rw[ofL_size];exact dgs_len20 _ (by omega)
   have hz2:(ofL [UInt8.ofNat (48+n % 10)]).size=1:=rfl
   go_wp2_with fail
   refine(hi _).mono ?_;rintro e w1 ⟨rfl,rfl⟩;rw[hsl];have hE:=hid (dgs_ge h);clear hsl;generalize [UInt8.ofNat (48+n % 10)]=q at*;go_wp2;go_ret;refine⟨?_,rfl⟩;rw[hE.out,←ofL_append];rfl
theorem rnoughts_any (n:Nat) (hn:n≤1000) (w:World):
 Calls Tryz.prog 133 #[.int .i64 (n:Int)] w fun e w'=>e=.returned (.string (ofL (List.replicate n 48)))∧w'=w:=by
 go_enter Tryz.func133,Tryz.ntmps133;go_wp2
 go_loop [3,4] (fun s i=>∃k:Nat,k≤n∧i=.int .i64 (k:Int)∧s=.string (ofL (List.replicate k 48))) (fun _ i=>n-(intOf i).toNat)
 case atStart=>exact⟨0,by omega,rfl,rfl⟩
 case round=>
  obtain⟨k,hk,rfl,rfl⟩:=hrel;by_cases hlt:k<n
  ·have hz:(ofL (List.replicate k 48)).size=k:=by rw[ofL_size];simp
   have ha:ofL (List.replicate k 48)++(ByteArray.mk #[48])=ofL (List.replicate (k+1) 48):=by rw[List.replicate_succ',←ofL_append];rfl
   go_wp2
   go_round
   case rel=>exact⟨k+1,by omega,by go_num,rfl⟩
   case measure=>simp[intOf];omega
  ·obtain rfl:k=n:=by omega
   go_wp2;go_ret;exact⟨rfl,rfl⟩
theorem rnext_any (l:List UInt8) (w:World) (hl:l.length≤1000) (hD:AllD l):
 Calls Tryz.prog 177 #[.string (ofL l)] w fun e w'=>e=.returned (.string (ofL (upB l)))∧Fr (fun _=>False) w w':=by
 have hsz:=ofL_size l;have hcv:=fun wx=>run_bytes_of_string (P:=Tryz.prog) wx 9 65 5 (ofL l) Tryz.underlying9 Tryz.underlying65 Tryz.underlying5
 go_enter Tryz.func177,Tryz.ntmps177;go_wp2
 have hb0:BytesAt (w.alloc (.cells (bytesRow (ofL l) (grownCap w l.length 0 5)) 5 ((bytesRow (ofL l) (grownCap w l.length 0 5)).size,(bytesRow (ofL l) (grownCap w l.length 0 5)).size+1))).drew w.heap.size l:=
  bytes_start w l _ _ _ (by simp[bytesRow,ofL])
 have HB0:=hid hb0;clear hb0 hcv
 go_loopw [4] (fun i wr=>∃j:Nat,j≤l.length∧i=.int .i64 ((j:Int)-1)∧Hid (BytesAt wr w.heap.size (l.take j++List.replicate (l.length-j) 48))∧Hid (upB l=upB (l.take j)++List.replicate (l.length-j) 48)∧Hid (Fr (fun _=>False) w wr)) (fun i _=>(intOf i+1).toNat)
 case atStart=>
  refine⟨l.length,Nat.le_refl _,rfl,hid ?_,hid ?_,hid (((Fr.refl _ w).alloc _).drew)⟩
  ·rw[List.take_length,Nat.sub_self];simpa using HB0.out
  ·rw[List.take_length,Nat.sub_self];simp
 case round=>
  obtain⟨j,hj,rfl,hB,hU,hF⟩:=hrel;cases j with
  |zero=>
   have hB1:BytesAt wr w.heap.size (List.replicate l.length 48):=by simpa using hB.out
   have hr:=BytesAt.back (cap:=grownCap w l.length 0 5) (n:=l.length) hB1 (by simp);have hres:=hid (show upB l=[49]++List.replicate l.length 48 by have:=hU.out;simpa[up_nil]using this);have hz:(ofL (List.replicate l.length 48)).size=l.length:=by rw[ofL_size];simp
   have hap:(ByteArray.mk #[49])++ofL (List.replicate l.length 48)=ofL ([49]++List.replicate l.length 48):=by apply ByteArray.ext;simp[ofL]
   clear hB hU hB1;generalize List.replicate l.length 48=z at*;go_wp2;go_ret;exact⟨by rw[hres.out];exact congrArg (fun t=>Ending.returned (Value.string t)) hap,hF.out⟩
  |succ j=>
   have hlt:j<l.length:=by omega
   have htk:=List.take_succ_eq_append_getElem hlt;have hcc:=hB.out j (by simp;omega)
   have hgj:(l.take (j+1)++List.replicate (l.length-(j+1)) 48)[j]'(by simp;omega)=l[j]:=by
    rw[List.getElem_append_left (by simp;omega)];simp
   rw[hgj]at hcc;obtain⟨hc1,hc2⟩:=hcc;obtain⟨ha,hb⟩:=(isD_iff _).1 (hD _ (List.getElem_mem hlt))
   have hset:∀c,(l.take (j+1)++List.replicate (l.length-(j+1)) 48).set j c=l.take j++c::List.replicate (l.length-(j+1)) 48:=by
    intro c;rw[htk,List.append_assoc,List.set_append_right _ _ (by simp;omega)];simp[show min j l.length=j by omega]
   by_cases h9:l[j].toNat<57
   ·have hbn:(UInt8.ofNat (l[j].toNat+1)).toNat=l[j].toNat+1:=UInt8.toNat_ofNat_of_lt' (by show _<256;omega)
    have hB2:=hB.out.set j (UInt8.ofNat (l[j].toNat+1)) (hset _).symm;rw[hbn,show((l[j].toNat+1:Nat):Int)=(l[j].toNat:Int)+1 from by omega]at hB2;have hr:=BytesAt.back (cap:=grownCap w l.length 0 5) (n:=l.length) hB2 (by simp;omega)
    have hres:Hid (upB l=l.take j++UInt8.ofNat (l[j].toNat+1)::List.replicate (l.length-(j+1)) 48):=by
     have:=hU.out;rw[htk,up_small _ _ h9,List.append_assoc]at this;exact this
    have HF2:=hid (hF.out.setCell (p:=⟨w.heap.size,j,none⟩) (.inr (Nat.le_refl _)) (.int .u8 ((l[j].toNat:Int)+1)));clear hB hU hF hgj htk hset hB2;generalize l[j]=c at*;go_wp2;go_ret;exact⟨by rw[hres.out];rfl,HF2.out⟩
   ·have h57:l[j].toNat=57:=by omega
    have hB2:=hid (hB.out.set j 48 (hset _).symm)
    have hU2:=hid (show upB l=upB (l.take j)++List.replicate (l.length-j) 48 from by
     have:=hU.out;rw[htk,up_nine _ _ h9,List.append_assoc]at this;rw[this,show l.length-j=(l.length-(j+1))+1 by omega,List.replicate_succ]
     rfl)
    have HB2:Hid (BytesAt (wr.setCell ⟨w.heap.size,j,none⟩ (.int .u8 48)) w.heap.size (l.take j++List.replicate (l.length-j) 48)):=by
     rw[show l.length-j=(l.length-(j+1))+1 by omega,List.replicate_succ];exact hB2
    have HF2:=hid (hF.out.setCell (p:=⟨w.heap.size,j,none⟩) (.inr (Nat.le_refl _)) (.int .u8 48));clear hB hU hF hgj htk hset hB2 h9;generalize l[j]=c at*;go_wp2;go_roundw
    case rel=>exact⟨j,by omega,by go_num,HB2,hU2,HF2⟩
    case measure=>simp[intOf]
def insB (ab be:Int) (ev:Bool):Bool:=(decide (ab<0)||(decide (ab=0)&&ev))&&(decide (0<be)||(decide (be=0)&&ev))
def insF (A B n E Q:Nat) (ev:Bool):Bool:=
 insB (bcmp (A*2^(-((E:Int)-1074-1)).toNat) (B*(2*n+1)*2^((E:Int)-1074-1).toNat))
  (if n=4503599627370496∧1<Q then bcmp (A*2^(-((E:Int)-1074-2)).toNat) (B*(4*n-1)*2^((E:Int)-1074-2).toNat)else bcmp (A*2^(-((E:Int)-1074-1)).toNat) (B*(2*n-1)*2^((E:Int)-1074-1).toNat)) ev
def insV (A B m:Nat):Bool:=insF A B (manE m).1 (manE m).2 (m/4503599627370496) (decide (m % 2=0))
theorem bcmp_cases (a b:Nat):bcmp a b= -1∨bcmp a b=0∨bcmp a b=1:=by
 unfold bcmp;split
 ·exact .inl rfl
 ·split
  ·exact .inr (.inl rfl)
  ·exact .inr (.inr rfl)
theorem fagainst_int (v:Value) (A B L:Nat) (N:Int) (n:Nat) (e:Int) (w:World) (hN:N=(n:Int)) (hL:L≤10000000) (hn:n<18446744073709551616) (h1: -5000≤e) (h2:e≤5000) (hf:FracAt w v A B L):
 Calls Tryz.prog 206 #[v,.int .u64 N,.int .i64 e] w fun r w'=>r=.returned (.int .i64 (bcmp (A*2^(-e).toNat) (B*n*2^e.toNat)))∧Fr (fun _=>False) w w':=by
 subst hN;exact fagainst_any v A B L n e w hL hn h1 h2 hf
theorem man_bounds (m:Nat) (h0:m≠0) (hm:m<9218868437227405312):(0<(manE m).1∧(manE m).1<9007199254740992)∧(manE m).2≤2046:=by
 unfold manE;split
 ·simp only;omega
 ·simp only;omega
theorem inside_any (v:Value) (A B L m:Nat) (w:World) (hL:L≤10000000) (hm0:m≠0) (hm:m<9218868437227405312) (hf:FracAt w v A B L):
 Calls Tryz.prog 179 #[v,.int .u64 (m:Int)] w fun r w'=>r=.returned (.bool (insV A B m))∧Fr (fun _=>False) w w':=by
 obtain⟨va,vb,xs,ys,rfl,hrest⟩:=hf;have HF:=hid (show FracAt w (.agg #[va,vb]) A B L from⟨va,vb,xs,ys,rfl,hrest⟩);have HM:=hid hm;have hev:Int.tmod (m:Int) 2=((m % 2:Nat):Int):=by rw[Int.tmod_eq_emod_of_nonneg (by omega)];omega
 obtain⟨hb1,hb2⟩:=man_bounds m hm0 hm;have hsh:(m:Int)/4503599627370496=((m/4503599627370496:Nat):Int):=by omega
 have hQ:m/4503599627370496≤2047:=by omega
 clear hrest hm;obtain⟨n,hn⟩:∃n,(manE m).1=n:=⟨_,rfl⟩;obtain⟨E,hE⟩:∃E,(manE m).2=E:=⟨_,rfl⟩;rw[hn]at hb1;rw[hE]at hb2;obtain⟨Q,hQe⟩:∃Q,m/4503599627370496=Q:=⟨_,rfl⟩;have HV:=hid (show insV A B m=insF A B n E Q (decide (m % 2=0))from by unfold insV;rw[hn,hE,hQe]);rw[hQe]at hsh hQ;have HSH:=hid hsh;have HN:=hid hn;have HE:=hid hE;clear hn hE hQe;go_enter Tryz.func179,Tryz.ntmps179
 go_wp2_with fail
 refine(parts_man m _ (by have:=HM.out;omega)).mono ?_;rintro e w1 ⟨rfl,rfl⟩;rw[HN.out,HE.out];have hF1:=hid ((Fr.refl (fun _=>False) w).alloc (.cells #[va,vb] 228))
 go_wp2_with fail
 refine(fagainst_int _ A B L _ (2*n+1) ((E:Int)-1074-1) _ (by omega) hL (by omega) (by omega) (by omega) (HF.out.fr hF1.out)).mono ?_;rintro r w2 ⟨rfl,hF2⟩;obtain⟨ab,hab⟩:∃ab,bcmp (A*2^(-((E:Int)-1074-1)).toNat) (B*(2*n+1)*2^((E:Int)-1074-1).toNat)=ab:=⟨_,rfl⟩;have habc: -1≤ab∧ab≤1:=by rw[←hab];rcases bcmp_cases _ _ with h|h|h<;>rw[h]<;>omega
 rw[hab];have hcv0:=(hF2.cell (p:=⟨w.heap.size,0,none⟩) (by simp) id).trans (cell_alloc_at _ _ _ _);have hcv1:=(hF2.cell (p:=⟨w.heap.size,1,none⟩) (by simp) id).trans (cell_alloc_at _ _ _ _);simp only[List.getElem?_toArray,List.getElem?_cons_zero,List.getElem?_cons_succ]at hcv0 hcv1;have HF2:=hid (hF1.out.trans hF2);clear hF2
 go_wp2_with fail
 refine(fagainst_int _ A B L _ (2*n-1) ((E:Int)-1074-1) _ (by omega) hL (by omega) (by omega) (by omega) (HF.out.fr HF2.out)).mono ?_;rintro r w3 ⟨rfl,hF3⟩;have hcw0:=(hF3.cell (p:=⟨w.heap.size,0,none⟩) (lt_of_cell hcv0) id).trans hcv0;have hcw1:=(hF3.cell (p:=⟨w.heap.size,1,none⟩) (lt_of_cell hcv1) id).trans hcv1;have HF3:=hid (HF2.out.trans hF3);have HABC:=hid (show ab= -1∨ab=0∨ab=1 by rw[←hab];exact bcmp_cases _ _);have HAB:=hid hab;clear hF3 hab;by_cases hp:n=4503599627370496∧1<Q
 ·have HP:=hid hp
  obtain⟨hp1,hp2⟩:=hp;have hq1:decide ((1:Int)<(Q:Int))=true:=decide_eq_true (by omega);have hn5:((n:Int)==4503599627370496)=true:=beq_iff_eq.2 (by omega);clear hp1 hp2
  go_wp2_with fail
  refine(fagainst_int _ A B L _ (4*n-1) ((E:Int)-1074-2) _ (by omega) hL (by omega) (by omega) (by omega) (HF.out.fr HF3.out)).mono ?_;rintro r w4 ⟨rfl,hF4⟩;have HF4:=hid (HF3.out.trans hF4);clear hF4 hcw0 hcw1;obtain⟨be,hbe⟩:∃be,bcmp (A*2^(-((E:Int)-1074-2)).toNat) (B*(4*n-1)*2^((E:Int)-1074-2).toNat)=be:=⟨_,rfl⟩;have hbec:be= -1∨be=0∨be=1:=by rw[←hbe];exact bcmp_cases _ _
  rw[hbe];have HBE:=hid hbe;clear hbe habc hcv0 hcv1;have habc:ab= -1∨ab=0∨ab=1:=HABC.out;rcases Nat.mod_two_eq_zero_or_one m with hpar|hpar
  ·have HP2:=hid (show(decide (m % 2=0))=true by rw[hpar];rfl)
   rw[hpar]at hev;clear hpar;rcases habc with rfl|rfl|rfl<;>rcases hbec with rfl|rfl|rfl
   all_goals
    go_wp2;go_ret;refine⟨?_,HF4.out⟩;rw[HV.out,insF,HAB.out,if_pos HP.out,HBE.out,HP2.out];rfl
  ·have HP2:=hid (show(decide (m % 2=0))=false by rw[hpar];rfl)
   rw[hpar]at hev;clear hpar;rcases habc with rfl|rfl|rfl<;>rcases hbec with rfl|rfl|rfl
   all_goals
    go_wp2;go_ret;refine⟨?_,HF4.out⟩;rw[HV.out,insF,HAB.out,if_pos HP.out,HBE.out,HP2.out];rfl
 ·have HP:=hid hp
  by_cases hn5:n=4503599627370496
  ·have hq1:decide ((1:Int)<(Q:Int))=false:=decide_eq_false (by have:=HP.out;omega)
   have hn6:((n:Int)==4503599627370496)=true:=beq_iff_eq.2 (by omega);clear hp hcw0 hcw1 hn5;obtain⟨be,hbe⟩:∃be,bcmp (A*2^(-((E:Int)-1074-1)).toNat) (B*(2*n-1)*2^((E:Int)-1074-1).toNat)=be:=⟨_,rfl⟩;have hbec:be= -1∨be=0∨be=1:=by rw[←hbe];exact bcmp_cases _ _
   rw[hbe];have HBE:=hid hbe;clear hbe habc hcv0 hcv1;have habc:ab= -1∨ab=0∨ab=1:=HABC.out;rcases Nat.mod_two_eq_zero_or_one m with hpar|hpar
   ·have HP2:=hid (show(decide (m % 2=0))=true by rw[hpar];rfl)
    rw[hpar]at hev;clear hpar;rcases habc with rfl|rfl|rfl<;>rcases hbec with rfl|rfl|rfl
    all_goals
     go_wp2;go_ret;refine⟨?_,HF3.out⟩;rw[HV.out,insF,HAB.out,if_neg HP.out,HBE.out,HP2.out];rfl
   ·have HP2:=hid (show(decide (m % 2=0))=false by rw[hpar];rfl)
    rw[hpar]at hev;clear hpar;rcases habc with rfl|rfl|rfl<;>rcases hbec with rfl|rfl|rfl
    all_goals
     go_wp2;go_ret;refine⟨?_,HF3.out⟩;rw[HV.out,insF,HAB.out,if_neg HP.out,HBE.out,HP2.out];rfl
  ·have hq1:((n:Int)==4503599627370496)=false:=beq_eq_false_iff_ne.2 (by omega)
   clear hp hcw0 hcw1 hn5;obtain⟨be,hbe⟩:∃be,bcmp (A*2^(-((E:Int)-1074-1)).toNat) (B*(2*n-1)*2^((E:Int)-1074-1).toNat)=be:=⟨_,rfl⟩;have hbec:be= -1∨be=0∨be=1:=by rw[←hbe];exact bcmp_cases _ _
   rw[hbe];have HBE:=hid hbe;clear hbe habc hcv0 hcv1;have habc:ab= -1∨ab=0∨ab=1:=HABC.out;rcases Nat.mod_two_eq_zero_or_one m with hpar|hpar
   ·have HP2:=hid (show(decide (m % 2=0))=true by rw[hpar];rfl)
    rw[hpar]at hev;clear hpar;rcases habc with rfl|rfl|rfl<;>rcases hbec with rfl|rfl|rfl
    all_goals
     go_wp2;go_ret;refine⟨?_,HF3.out⟩;rw[HV.out,insF,HAB.out,if_neg HP.out,HBE.out,HP2.out];rfl
   ·have HP2:=hid (show(decide (m % 2=0))=false by rw[hpar];rfl)
    rw[hpar]at hev;clear hpar;rcases habc with rfl|rfl|rfl<;>rcases hbec with rfl|rfl|rfl
    all_goals
     go_wp2;go_ret;refine⟨?_,HF3.out⟩;rw[HV.out,insF,HAB.out,if_neg HP.out,HBE.out,HP2.out];rfl
def ProdInv (w:World) (xs ys:List Nat) (j:Nat) (v:Value) (wr:World):Prop:=
 ∃ws,v≠.slice none 0 0∧BigAt wr v ws∧val ws=val xs*val (ys.drop j)∧ws.length≤xs.length+2*(ys.length-j)+3∧Fr (fun _=>False) w wr
theorem bprod_any (v u:Value) (xs ys:List Nat) (w:World) (hl1:xs.length≤20000000) (hl2:ys.length≤20000000) (hA:BigAt w v xs) (hB:BigAt w u ys):
 Calls Tryz.prog 209 #[v,u] w (BigPostS w (val xs*val ys) (xs.length+2*ys.length+3)):=by
 obtain⟨a,ca,rfl⟩:=big_shape hA;obtain⟨b,cb,rfl⟩:=big_shape hB;obtain⟨i0,hi,hz0,hz1,hz2⟩:=info_parts Tryz.info27;have HA:=hid hA;have HB:=hid hB;clear hA hB;go_enter Tryz.func209,Tryz.ntmps209;go_wp2
 have hst:=hid (show ProdInv w xs ys ys.length (.slice (some ⟨w.heap.size,0,none⟩) 1 1) (w.alloc (.cells #[.int .u64 0] 27))from
  ⟨[0],by simp,⟨ownsRow_base (row_one w (.int .u64 0) 27),Limbs.one (by omega)⟩,by rw[List.drop_length];simp[val],by simp,(Fr.refl _ _).alloc _⟩)
 go_loopw [5,6] (fun out i wr=>∃j:Nat,j≤ys.length∧i=.int .i64 ((j:Int)-1)∧Hid (ProdInv w xs ys j out wr)) (fun _ i _=>(intOf i+1).toNat)
 case atStart=>exact⟨ys.length,Nat.le_refl _,rfl,hst⟩
 case round=>
  clear hst;obtain⟨j,hj,rfl,hI⟩:=hrel;cases j with
  |zero=>
   go_wp2;go_ret;obtain⟨ws,c1,c2,c3,c4,c5⟩:=hI.out;exact⟨_,ws,rfl,c1,c2,by rw[c3,List.drop_zero],by omega,c5⟩
  |succ j=>
   obtain⟨ws,c1,c2,c3,c4,c5⟩:=hI.out;obtain⟨g2,cap2,rfl⟩:=big_some c2 c1;obtain⟨gb,hgb,hcy⟩:=big_cell (HB.out.fr c5) j (by omega);subst hgb;have hyk:ys[j]<4294967296:=HB.out.2 _ (List.getElem_mem (by omega));have C2:=hid c2;have C3:=hid c3;have C5:=hid c5
   have hcy2:∀w2,Fr (fun _=>False) w w2→w2.cell? ⟨gb,j,none⟩=some (.int .u64 (ys[j]:Nat)):=fun w2 hF=>by
    obtain⟨g',hg',hc'⟩:=big_cell (HB.out.fr hF) j (by omega);cases hg';exact hc'
   have HCY:=hid hcy2;have hbs:=c5.size;have HZ:=hid (row_one wr (.int .u64 0) 27);clear hI c1 c2 c3 c5 hcy2
   go_wp2_with (first
    |(at_builtin;refine wpList_append_own _ rfl _ _ 226 rfl wr.heap.size 27 i0 (.int .u64 0) 1 8 Tryz.underlying226 hi hz0 hz1 hz2 rfl (by decide) _ _ _ rfl HZ.out ⟨g2,0,none⟩ ws.length cap2 (usB ws) rfl ?c0 ?c1 ?c2 ?c3 ?c4 ?c5 ?_)
    |go_in)
   case c0=>rw[us_lengthB];omega
   case c1=>exact(C2.out.1.alloc _).cells (g:=g2) rfl
   case c2=>exact us_oneB
   case c3=>unfold maxLen;omega
   case c4=>omega
   case c5=>simp
   intro v3 w3 hown' hgrow _
   have hn3:v3≠.slice none 0 0:=by
    rw[Nat.add_comm]at hown';obtain⟨g',cap',rfl⟩:=row_succ hown';simp
   have hB3:=hid (show BigAt w3 v3 (0::ws)from⟨by rw[List.length_cons,Nat.add_comm];exact ownsRow_base hown',by
    intro x hx;rcases List.mem_cons.1 hx with rfl|hx
    ·omega
    ·exact C2.out.2 x hx⟩)
   have HF3:=hid (((C5.out.alloc (.cells #[.int .u64 0] 27)).trans' ((Fr.refl (fun i=>i=wr.heap.size) (wr.alloc (.cells #[.int .u64 0] 27))).grown hgrow (fun k hk=>.inl (by simpa[Value.ownBlock]using hk.symm))) (fun i hi=>.inr (by omega))));have hcz:=HCY.out w3 HF3.out;clear hown' hgrow hcy
   go_wp2_with fail
   refine(btimes_any _ xs ys[j] 0 _ (by omega) hyk (by omega) (HA.out.fr HF3.out)).mono ?_;rintro e w4 ⟨v4,ws4,rfl,d1,d2,d3,d4⟩;have D1:=hid d1;have D2:=hid d2;have D4:=hid d4;clear d1 d2 d4 hcz
   go_wp2_with fail
   refine(bplus_s _ _ (0::ws) ws4 _ (by simp;omega) (by omega) (hB3.out.fr D4.out) D1.out).mono ?_;rintro e w5 ⟨v5,ws5,rfl,n5,e1,e2,e3,e4⟩
   have HI:=hid (show ProdInv w xs ys j v5 w5 from by
    refine⟨ws5,n5,e1,?_,?_,(HF3.out.trans D4.out).trans e4⟩
    ·have hdr:val (ys.drop j)=ys[j]+4294967296*val (ys.drop (j+1)):=by rw[List.drop_eq_getElem_cons (by omega)];rfl
     have h1:val (0::ws)=4294967296*(val xs*val (ys.drop (j+1))):=by rw[val,C3.out,Nat.zero_add]
     rw[e2,h1,D2.out,hdr,Nat.mul_add,Nat.add_zero,Nat.mul_comm ys[j],Nat.mul_left_comm 4294967296];exact Nat.add_comm _ _
    ·simp only[List.length_cons]at e3
     omega)
   clear n5 e1 e2 e3 e4;go_wp2;go_roundw
   case rel=>exact⟨j,by omega,by go_num,HI⟩
   case measure=>simp[intOf]
theorem man_less (m:Nat) (hm:m<9218868437227405312):(manE m).1<9007199254740992∧(manE m).2≤2046:=by
 unfold manE;split
 ·simp only;omega
 ·simp only;omega
structure NearC (w0 w:World) (b1 b2:Nat) (x0 x1 y0 y1:Value):Prop where
 fr:Fr (fun _=>False) w0 w
 c0:w.cell? ⟨b1,0,none⟩=some x0
 c1:w.cell? ⟨b1,1,none⟩=some x1
 d0:w.cell? ⟨b2,0,none⟩=some y0
 d1:w.cell? ⟨b2,1,none⟩=some y1
theorem NearC.next {w0 w w':World} {b1 b2:Nat} {x0 x1 y0 y1:Value} (h:NearC w0 w b1 b2 x0 x1 y0 y1) (hF:Fr (fun _=>False) w w'):NearC w0 w' b1 b2 x0 x1 y0 y1:=
 ⟨h.fr.trans hF,(hF.cell (p:=⟨b1,0,none⟩) (lt_of_cell h.c0) id).trans h.c0,(hF.cell (p:=⟨b1,1,none⟩) (lt_of_cell h.c1) id).trans h.c1,(hF.cell (p:=⟨b2,0,none⟩) (lt_of_cell h.d0) id).trans h.d0,(hF.cell (p:=⟨b2,1,none⟩) (lt_of_cell h.d1) id).trans h.d1⟩
theorem nearer_any (v u:Value) (A B C D L m:Nat) (w:World) (hL:L≤1000000) (hm:m<9218868437227405312) (hf:FracAt w v A B L) (hg:FracAt w u C D L):
 Calls Tryz.prog 180 #[v,u,.int .u64 (m:Int)] w fun r w'=>r=.returned (.int .i64 (-(bcmp ((A*D+C*B)*2^(-(((manE m).2:Int)-1074)).toNat) (B*D*(2*(manE m).1)*2^(((manE m).2:Int)-1074).toNat))))∧Fr (fun _=>False) w w':=by
 obtain⟨va,vb,xs,ys,rfl,a1,a2,a3,a4,a5,a6⟩:=hf;obtain⟨ua,ub,zs,ts,rfl,b1,b2,b3,b4,b5,b6⟩:=hg;obtain⟨p1,q1,rfl⟩:=big_shape a1;obtain⟨p2,q2,rfl⟩:=big_shape a2;obtain⟨p3,q3,rfl⟩:=big_shape b1;obtain⟨p4,q4,rfl⟩:=big_shape b2;have A1:=hid a1;have A2:=hid a2;have B1:=hid b1;have B2:=hid b2;have HM:=hid hm;clear a1 a2 b1 b2;go_enter Tryz.func180,Tryz.ntmps180
 go_wp2_with fail
 refine(parts_man m _ (by have:=HM.out;omega)).mono ?_;rintro e w1 ⟨rfl,rfl⟩;clear hm
 have hN0:NearC w ((w.alloc (.cells #[.slice p1 xs.length q1,.slice p2 ys.length q2] 228)).alloc (.cells #[.slice p3 zs.length q3,.slice p4 ts.length q4] 228)) w.heap.size (w.heap.size+1) (.slice p1 xs.length q1) (.slice p2 ys.length q2) (.slice p3 zs.length q3) (.slice p4 ts.length q4):=by
  have h1:((w.alloc (.cells #[.slice p1 xs.length q1,.slice p2 ys.length q2] 228)).alloc (.cells #[.slice p3 zs.length q3,.slice p4 ts.length q4] 228)).heap[w.heap.size]? =some (.cells #[.slice p1 xs.length q1,.slice p2 ys.length q2] 228 (0,0)):=(Below.heap_alloc _ _ _ (by simp)).trans (heap_alloc_new w _)
  have h2:((w.alloc (.cells #[.slice p1 xs.length q1,.slice p2 ys.length q2] 228)).alloc (.cells #[.slice p3 zs.length q3,.slice p4 ts.length q4] 228)).heap[w.heap.size+1]? =some (.cells #[.slice p3 zs.length q3,.slice p4 ts.length q4] 228 (0,0)):=by
   have:=heap_alloc_new (w.alloc (.cells #[.slice p1 xs.length q1,.slice p2 ys.length q2] 228)) (.cells #[.slice p3 zs.length q3,.slice p4 ts.length q4] 228);rwa[World.size_alloc]at this
  exact⟨((Fr.refl _ w).alloc _).alloc _,two_cell0 h1,two_cell1 h1,two_cell0 h2,two_cell1 h2⟩
 generalize hW0:(w.alloc (.cells #[.slice p1 xs.length q1,.slice p2 ys.length q2] 228)).alloc (.cells #[.slice p3 zs.length q3,.slice p4 ts.length q4] 228)=W0 at*;clear hW0;have n0:=hN0.c0;have n1:=hN0.c1;have n2:=hN0.d0;have n3:=hN0.d1;have HX:=hid (fun (wx:World) (hx:Fr (fun _=>False) w wx)=>bprod_any (.slice p1 xs.length q1) (.slice p4 ts.length q4) xs ts wx (by omega) (by omega) (A1.out.fr hx) (B2.out.fr hx));have HY:=hid (fun (wx:World) (hx:Fr (fun _=>False) w wx)=>bprod_any (.slice p3 zs.length q3) (.slice p2 ys.length q2) zs ys wx (by omega) (by omega) (B1.out.fr hx) (A2.out.fr hx));have HZ:=hid (fun (wx:World) (hx:Fr (fun _=>False) w wx)=>bprod_any (.slice p2 ys.length q2) (.slice p4 ts.length q4) ys ts wx (by omega) (by omega) (A2.out.fr hx) (B2.out.fr hx));have HN0:=hid hN0;clear hN0
 go_wp2_with fail
 go_cut [9] (fun xv wc=>∃ws,Hid (BigAt wc xv ws)∧Hid (val ws=A*D+C*B)∧ws.length≤5000000∧Hid (NearC w wc w.heap.size (w.heap.size+1) (.slice p1 xs.length q1) (.slice p2 ys.length q2) (.slice p3 zs.length q3) (.slice p4 ts.length q4)))
 case first=>
  have HNc:=hid (HN0.out.next ((Fr.refl (fun _=>False) W0).drew));have HLX:=hid (show xs.length+2*ts.length+3≤4000000 by omega);have HLY:=hid (show zs.length+2*ys.length+3≤4000000 by omega);have h4:=hid (show(4000000:Nat)≤1000000000 by omega)
  go_region_held3 (fun w'=>w'.cell? ⟨w.heap.size,0,none⟩=some (.slice p1 xs.length q1)∧w'.cell? ⟨w.heap.size,1,none⟩=some (.slice p2 ys.length q2)∧w'.cell? ⟨w.heap.size+1,0,none⟩=some (.slice p3 zs.length q3)∧w'.cell? ⟨w.heap.size+1,1,none⟩=some (.slice p4 ts.length q4)) (first|go_keep|exact⟨HNc.out.c0,HNc.out.c1,HNc.out.d0,HNc.out.d1⟩) (first
   |(go_at_call_of 209 (Value.slice p1 xs.length q1);refine Calls.mono (HX.out _ HNc.out.fr) ?_;rintro r wX ⟨vX,wsX,rfl,nX,x1,x2,x3,x4⟩;have X1:=hid x1;have X2:=hid x2;have X4:=hid x4;have X3:=hid (Nat.le_trans x3 HLX.out);have HNe:=hid (HNc.out.next x4);have nxa:=HNe.out.c0;have nxb:=HNe.out.c1;have nxc:=HNe.out.d0;have nxd:=HNe.out.d1;clear HNc;have HNc:=HNe;clear HNe;clear x1 x2 x3 x4 nX)
   |(go_at_call_of 209 (Value.slice p3 zs.length q3);refine Calls.mono (HY.out _ HNc.out.fr) ?_;rintro r wY ⟨vY,wsY,rfl,nY,y1,y2,y3,y4⟩;have Y1:=hid y1;have Y2:=hid y2;have Y4:=hid y4;have Y3:=hid (Nat.le_trans y3 HLY.out);have HNe:=hid (HNc.out.next y4);have nya:=HNe.out.c0;have nyb:=HNe.out.c1;have nyc:=HNe.out.d0;have nyd:=HNe.out.d1;clear HNc;have HNc:=HNe;clear HNe;clear y1 y2 y3 y4 nY)
   |(go_at_call 210;(first|refine Calls.mono (bplus_s _ _ wsX wsY _ (Nat.le_trans X3.out h4.out) (Nat.le_trans Y3.out h4.out) (X1.out.fr Y4.out) Y1.out) ?_|refine Calls.mono (bplus_s _ _ wsX wsY _ (Nat.le_trans X3.out h4.out) (Nat.le_trans Y3.out h4.out) X1.out (Y1.out.fr X4.out)) ?_);rintro r wZ ⟨vZ,wsZ,rfl,nZ,z1,z2,z3,z4⟩;have Z1:=hid z1;have Z2:=hid z2;have Z3:=hid z3;have HNe:=hid (HNc.out.next z4);have nza:=HNe.out.c0;have nzb:=HNe.out.c1;have nzc:=HNe.out.d0;have nzd:=HNe.out.d1;clear HNc;have HNc:=HNe;clear HNe;clear z1 z2 z3 z4 nZ))
  all_goals
   go_wp2;go_meet;refine⟨wsZ,Z1,hid ?_,?_,HNc⟩
   ·rw[Z2.out,X2.out,Y2.out,a3,a4,b3,b4]
   ·have:=Z3.out
    have:=X3.out;have:=Y3.out;omega
 case rest=>
  obtain⟨ws,hB,hV,hl,hN⟩:=hcut;have n0:=hN.out.c0;have n1:=hN.out.c1;have n2:=hN.out.d0;have n3:=hN.out.d1;have hfr:=hid hN.out.fr;clear HX HY HN0;obtain⟨px,qx,rfl⟩:=big_shape hB.out;have hb:=man_less m HM.out;obtain⟨n,hn⟩:∃n,(manE m).1=n:=⟨_,rfl⟩;obtain⟨E,hE⟩:∃E,(manE m).2=E:=⟨_,rfl⟩;rw[hn,hE]at hb ⊢;have HNE:=hid (And.intro hn hE);clear hn hE
  go_wp2_with fail
  refine(HZ.out wc hfr.out).mono ?_;rintro e w5 ⟨v5,ws5,rfl,n5,z1,z2,z3,z4⟩;obtain⟨p5,q5,rfl⟩:=big_some z1 n5
  have HFR:=hid (show FracAt w5 (.agg #[.slice px ws.length qx,.slice (some ⟨p5,0,none⟩) ws5.length q5]) (A*D+C*B) (B*D) 5000000 from
   ⟨_,_,ws,ws5,rfl,hB.out.fr z4,z1,hV.out,by rw[z2,a4,b4],hl,by omega⟩)
  have HF5:=hid (hfr.out.trans z4);clear z1 z2 z3 z4 n5 n0 n1 n2 n3
  go_wp2_with fail
  refine(fagainst_int _ (A*D+C*B) (B*D) 5000000 _ (2*n) ((E:Int)-1074) _ (by omega) (by omega) (by omega) (by omega) (by omega) (HFR.out.fr ((Fr.refl _ _).alloc _))).mono ?_;rintro e w6 ⟨rfl,hF6⟩;have HF6:=hid ((HF5.out.alloc _).trans hF6);obtain⟨cc,hcc⟩:∃cc,bcmp ((A*D+C*B)*2^(-((E:Int)-1074)).toNat) (B*D*(2*n)*2^((E:Int)-1074).toNat)=cc:=⟨_,rfl⟩;have hcb: -1≤cc∧cc≤1:=by rw[←hcc];rcases bcmp_cases ((A*D+C*B)*2^(-((E:Int)-1074)).toNat) (B*D*(2*n)*2^((E:Int)-1074).toNat)with h|h|h<;>rw[h]<;>omega
  rw[hcc];have HCC:=hid hcc;clear hF6 hcc;go_wp2;go_ret;refine⟨?_,HF6.out⟩;rw[HNE.out.1,HNE.out.2,HCC.out];rfl
theorem bcmp_lt (a b:Nat):bcmp a b<0↔a<b:=by
 unfold bcmp;split
 ·rename_i h;simp[h]
 ·rename_i h;split<;>simp[h]
theorem bcmp_eq (a b:Nat):bcmp a b=0↔a=b:=by
 unfold bcmp;split
 ·rename_i h;constructor
  ·intro h2;omega
  ·intro h2;omega
 ·split
  ·rename_i h2;simp[h2]
  ·rename_i h2;simp[h2]
theorem bcmp_gt (a b:Nat):0<bcmp a b↔b<a:=by
 unfold bcmp;split
 ·rename_i h;constructor
  ·intro h2;omega
  ·intro h2;omega
 ·split
  ·rename_i h h2;constructor
   ·intro h3;omega
   ·intro h3;omega
  ·constructor
   ·intro _;omega
   ·intro _;omega
theorem bcmp_scale (a b t:Nat) (ht:0<t):bcmp (a*t) (b*t)=bcmp a b:=by
 unfold bcmp;have h1:a*t<b*t↔a<b:=Nat.mul_lt_mul_right ht;have h2:a*t=b*t↔a=b:=Nat.mul_left_inj (by omega);simp only[h1,h2]
theorem bcmp_two (A C E s:Nat) (e:Int) (he:e=(E:Int)-(s:Int)):bcmp (A*2^(-e).toNat) (C*2^e.toNat)=bcmp (A*p2 s) (C*p2 E):=by
 show bcmp (A*p2 (-e).toNat) (C*p2 e.toNat)=_
 rcases Nat.le_total E s with h|h
 ·rw[show e.toNat=0 by omega,show p2 0=1 from rfl,Nat.mul_one,←bcmp_scale _ _ (p2 E) (p2_pos E),Nat.mul_assoc,←p2_add,show(-e).toNat+E=s by omega]
 ·rw[show(-e).toNat=0 by omega,show p2 0=1 from rfl,Nat.mul_one,←bcmp_scale _ _ (p2 s) (p2_pos s),Nat.mul_assoc,←p2_add,show e.toNat+s=E by omega]
theorem p2_1075:p2 1075=2*p2 1074:=p2_succ 1074
theorem p2_1076:p2 1076=4*p2 1074:=by
 rw[show p2 1076=2*p2 1075 from p2_succ 1075,p2_1075,←Nat.mul_assoc]
theorem insV_iff (A B m:Nat) (hm0:m≠0):insV A B m=true↔Rnd (A*p2 1074) B m:=by
 have hV:=manE_V m;have hH:=gapH_eq m;have hL:=gapL_eq m hm0;have h1:=mid_high m;have h2:=mid_low m hm0
 have hQ:((manE m).1=4503599627370496∧1<m/4503599627370496)↔((manE m).1=4503599627370496∧0<(manE m).2):=by
  unfold manE;by_cases h:m/4503599627370496=0
  ·rw[if_pos h];simp only;omega
  ·rw[if_neg h];simp only;omega
 have hn:0<(manE m).1:=by
  obtain⟨e1,e2⟩:=manE_eq m;omega
 unfold lowQ at hL;unfold insV insF insB;generalize (manE m).1=n at*;generalize (manE m).2=E at*;rw[bcmp_two A (B*(2*n+1)) E 1075 _ (by omega)]
 have hab:B*(2*n+1)*p2 E=mid m*B:=by
  rw[h1,hV,hH,Nat.mul_comm B,Nat.mul_right_comm,Nat.add_mul,Nat.one_mul,Nat.mul_assoc 2]
 have hA:A*p2 1075=2*(A*p2 1074):=by rw[p2_1075,Nat.mul_left_comm]
 have hA2:A*p2 1076=4*(A*p2 1074):=by rw[p2_1076,Nat.mul_left_comm]
 have hbe:(if n=4503599627370496∧1<m/4503599627370496 then bcmp (A*2^(-((E:Int)-1074-2)).toNat) (B*(4*n-1)*2^((E:Int)-1074-2).toNat)else bcmp (A*2^(-((E:Int)-1074-1)).toNat) (B*(2*n-1)*2^((E:Int)-1074-1).toNat))=bcmp (2*(A*p2 1074)) (mid (m-1)*B):=by
  by_cases hb:n=4503599627370496∧0<E
  ·rw[if_pos (hQ.2 hb),bcmp_two A (B*(4*n-1)) E 1076 _ (by omega),hA2]
   rw[if_pos hb,Nat.one_mul]at hL
   have hmid:2*mid (m-1)=(4*n-1)*p2 E:=by
    rw[Nat.sub_mul,Nat.one_mul];have:4*n*p2 E=4*(n*p2 E):=Nat.mul_assoc ..;have:=p2_pos E;generalize n*p2 E=z at*;generalize p2 E=y at*;omega
   rw[Nat.mul_comm B,Nat.mul_right_comm,←hmid,←bcmp_scale (2*(A*p2 1074)) (mid (m-1)*B) 2 (by omega)];generalize A*p2 1074=x;rw[show 4*x=2*x*2 by omega,show 2*mid (m-1)*B=mid (m-1)*B*2 by rw[Nat.mul_assoc,Nat.mul_comm]]
  ·rw[if_neg (fun h=>hb (hQ.1 h)),bcmp_two A (B*(2*n-1)) E 1075 _ (by omega),hA]
   rw[if_neg hb]at hL
   have hmid:mid (m-1)=(2*n-1)*p2 E:=by
    rw[Nat.sub_mul,Nat.one_mul];have:2*n*p2 E=2*(n*p2 E):=Nat.mul_assoc ..;generalize n*p2 E=z at*;generalize p2 E=y at*;omega
   rw[hmid,Nat.mul_comm B,Nat.mul_right_comm]
 rw[hbe,hab,hA];unfold Rnd;simp only[Bool.and_eq_true,Bool.or_eq_true,decide_eq_true_eq,bcmp_lt,bcmp_eq,bcmp_gt];generalize 2*(A*p2 1074)=x;generalize mid m*B=y;generalize mid (m-1)*B=z;constructor
 ·rintro⟨a,b⟩
  refine⟨?_,?_⟩
  ·rcases b with b|⟨b,c⟩
   ·exact .inr (.inl b)
   ·exact .inr (.inr ⟨b.symm,c⟩)
  ·exact a
 ·rintro⟨a,b⟩
  refine⟨b,?_⟩;rcases a with a|a|⟨a,c⟩
  ·exact absurd a hm0
  ·exact .inl a
  ·exact .inr ⟨a.symm,c⟩
theorem fag_V (v:Value) (A B L m n E:Nat) (N e:Int) (w:World) (hm:m<9218868437227405312) (hn:(manE m).1=n) (hE:(manE m).2=E) (hN:N=(n:Int)) (he:e=(E:Int)-1074) (hL:L≤10000000) (hf:FracAt w v A B L):
 Calls Tryz.prog 206 #[v,.int .u64 N,.int .i64 e] w fun r w'=>r=.returned (.int .i64 (bcmp (A*p2 1074) (B*V m)))∧Fr (fun _=>False) w w':=by
 have hb:=man_less m hm;rw[hn,hE]at hb;refine(fagainst_int v A B L N n e w hN hL (by omega) (by omega) (by omega) hf).mono ?_;rintro r w' ⟨rfl,hF⟩;refine⟨?_,hF⟩;rw[bcmp_two A (B*n) E 1074 e (by omega),manE_V m,hn,hE,Nat.mul_assoc]
def TenLe (m:Nat) (X:Int):Prop:=p10 X.toNat*p2 1074≤p10 (-X).toNat*V m
theorem bcmp_le (a b:Nat):bcmp a b≤0↔a≤b:=by
 have h1:=bcmp_gt a b;constructor
 ·intro h
  rcases Nat.lt_or_ge b a with h2|h2
  ·have:=h1.2 h2;omega
  ·exact h2
 ·intro h
  rcases Int.lt_or_le 0 (bcmp a b)with h2|h2
  ·have:=h1.1 h2;omega
  ·exact h2
def CLe (m c:Nat) (X:Int):Prop:=c*p10 X.toNat*p2 1074≤p10 (-X).toNat*V m
theorem CLe.shift (m c:Nat) (X:Int):CLe m c (X+1)↔CLe m (10*c) X:=by
 unfold CLe;rcases Int.lt_or_le X 0 with h|h
 ·rw[show(X+1).toNat=0 by omega,show X.toNat=0 by omega,show(-X).toNat=(-(X+1)).toNat+1 by omega,p10_succ,show p10 0=1 from rfl,Nat.mul_one,Nat.mul_one]
  generalize p10 (-(X+1)).toNat=p;rw[Nat.mul_assoc 10 c,Nat.mul_comm p 10,Nat.mul_assoc 10 p];generalize c*p2 1074=a;generalize p*V m=b;omega
 ·rw[show(X+1).toNat=X.toNat+1 by omega,show(-(X+1)).toNat=0 by omega,show(-X).toNat=0 by omega,p10_succ]
  rw[show c*(p10 X.toNat*10)=10*c*p10 X.toNat from by rw[Nat.mul_comm 10 c,Nat.mul_assoc,Nat.mul_comm 10]]
theorem CLe.zero (m:Nat) (X:Int):CLe m 0 X:=by unfold CLe;rw[Nat.zero_mul,Nat.zero_mul];exact Nat.zero_le _
theorem ten_CLe (m:Nat) (X:Int):TenLe m X↔CLe m 1 X:=by unfold TenLe CLe;rw[Nat.one_mul]
theorem one_slice (k:Nat) (h:k<9):(ByteArray.mk #[49,50,51,52,53,54,55,56,57]).extract k (k+1)=ofL [UInt8.ofNat (48+(k+1))]:=by
 have:k=0∨k=1∨k=2∨k=3∨k=4∨k=5∨k=6∨k=7∨k=8:=by omega
 rcases this with rfl|rfl|rfl|rfl|rfl|rfl|rfl|rfl|rfl<;>rfl
theorem num_dig (l:List UInt8) (k:Nat) (h:k<10):num (dv (l++[UInt8.ofNat (48+k)]))=num (dv l)*10+k:=by
 rw[dv_append]
 show num (dv l++[(UInt8.ofNat (48+k)).toNat-48])=_
 rw[num_snoc,ofNat_byte k h];omega
theorem allD_dig {l:List UInt8} (h:AllD l) (k:Nat) (hk:k<10):AllD (l++[UInt8.ofNat (48+k)]):=
 h.append (by intro c hc;rw[List.mem_singleton]at hc;rw[hc];exact isD_dig k hk)
def DInv (m:Nat) (l:List UInt8) (i:Nat) (X:Int):Prop:=AllD l∧l.length=i∧CLe m (num (dv l)) X∧¬CLe m (num (dv l)+1) X
theorem DInv.start {m:Nat} {x:Int} (h:¬TenLe m (x+1)):DInv m [] 0 (x-((0:Nat):Int)+1):=by
 have e:x-((0:Nat):Int)+1=x+1:=by omega
 rw[e];exact⟨allD_nil,rfl,CLe.zero m _,mt (ten_CLe m (x+1)).2 h⟩
def Step (s:Nat):Prop:=s=0∨s=1∨s=2∨s=4∨s=8∨s=16∨s=32∨s=64∨s=128∨s=256∨s=512
def FInvB (m:Nat) (x:Int) (s:Nat):Prop:=TenLe m x∧¬TenLe m (x+(if s=0 then 1 else 2*(s:Int)))
theorem FInvB.next {m:Nat} {x:Int} {s:Nat} (h:FInvB m x s) (hs:Step s) (h0:s≠0):(TenLe m (x+s)→FInvB m (x+s) (s/2))∧(¬TenLe m (x+s)→FInvB m x (s/2)):=by
 obtain⟨h1,h2⟩:=h;rw[if_neg h0]at h2
 have key:(if s/2=0 then(1:Int)else 2*((s/2:Nat):Int))=s:=by
  unfold Step at hs;rcases hs with h|h|h|h|h|h|h|h|h|h|h<;>subst h<;>first|(exact absurd rfl h0)|rfl
 refine⟨fun h=>⟨h,?_⟩,fun h=>⟨h1,?_⟩⟩
 ·rw[key,show x+(s:Int)+s=x+2*s by omega];exact h2
 ·rw[key];exact h
theorem Step.half {s:Nat} (h:Step s):Step (s/2):=by
 unfold Step at*;omega
theorem dgs_last (D:Nat) (h:D % 10≠0):(dgs D).getLast? ≠some 48:=by
 have hb:=ofNat_byte (D % 10) (by omega)
 have key:UInt8.ofNat (48+D % 10)≠48:=by
  intro e;have:=congrArg UInt8.toNat e;rw[hb]at this;have h48:(48:UInt8).toNat=48:=rfl;omega
 by_cases h1:D<10
 ·rw[dgs_lt h1]
  rw[show D % 10=D by omega]at key;simpa using key
 ·rw[dgs_ge h1]
  simpa using key
theorem p10_17:p10 17=100000000000000000:=by decide+kernel
end Go.Proofs.YtmkkibaacclhnaaGreatDoor
