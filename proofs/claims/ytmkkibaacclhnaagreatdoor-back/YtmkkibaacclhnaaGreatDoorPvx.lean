/-
  A step of the walk, the part named Pvx. No theorem of the row.
-/
import Derived.Test.YtmkkibaacclhnaaGreatDoorPrs
import Derived.Test.YtmkkibaacclhnaaGreatDoorPt
namespace Go.Proofs.YtmkkibaacclhnaaGreatDoor
open Go.RowKit
set_option maxRecDepth 100000
set_option maxHeartbeats 16000000
theorem between0 (B:Nat) (vi vo vt vm:Value) (s:Ps) (m k:Nat) (c:UInt8) (w:World) (h:PR B w vi vo vt vm s) (hq:Nn vt vm) (hok:PsOk s m k) (hm:m≤10000000) (hst:s.st=0):
 Calls Tryz.prog 85 #[.pointer (some ⟨B,0,none⟩),.int .u8 (c.toNat:Int)] w (PDone B s.came (own B vi vo vt vm) w (psBegin s c)):=by
 have hu:=And.intro hq hm;clear hu;have H:=hid (PC.start h);have HP:=hid h;have f4:=blk_free (j:=4) h.blk;have k4:=blk_cell h.blk (show(psCells s vi vo vt vm)[4]? =some (.int .i64 (s.st:Int))from rfl);rw[hst]at k4;have ht0:=hok.tok (by omega);have hil:=hok.c.iln;have hoo:=hok.c.oln;have hd2:=hok.c.dep2;have hs:=beginValue_any B vi vo vt vm s c w h hq ht0 (by omega) (by omega);clear h hok ht0 hst;cases hr:psBegin s c with
 |error n=>
  rw[hr]at hs;have HQ:=hid hs;clear hs hr;go_enter Tryz.func85,Tryz.ntmps85
  go_wp2_with fail
  refine Calls.mono HQ.out ?_;rintro e w2 ⟨rfl,hF⟩;exact⟨rfl,rfl,hF⟩
 |ok s'=>
  rw[hr]at hs;have HQ:=hid hs;clear hs hr;go_enter Tryz.func85,Tryz.ntmps85
  go_wp2_with fail
  refine Calls.mono HQ.out ?_;rintro e w2 ⟨rfl,hp⟩;have HR:=hid hp;clear hp;go_wp2;go_end0;exact⟨rfl,HR.out⟩
theorem between1a (B:Nat) (vi vo vt vm:Value) (s:Ps) (m k:Nat) (c:UInt8) (w:World) (h:PR B w vi vo vt vm s) (hq:Nn vt vm) (hok:PsOk s m k) (hm:m≤10000000) (hst:s.st=1) (hc93:c≠93):
 Calls Tryz.prog 85 #[.pointer (some ⟨B,0,none⟩),.int .u8 (c.toNat:Int)] w (PDone B s.came (own B vi vo vt vm) w (psBegin s c)):=by
 have hu:=And.intro hq hm;clear hu;have H:=hid (PC.start h);have HP:=hid h;have f4:=blk_free (j:=4) h.blk;have k4:=blk_cell h.blk (show(psCells s vi vo vt vm)[4]? =some (.int .i64 (s.st:Int))from rfl);rw[hst]at k4;have ht0:=hok.tok (by omega);have hil:=hok.c.iln;have hoo:=hok.c.oln;have hd2:=hok.c.dep2;have q93:((c.toNat:Int)==93)=false:=beq_eq_false_iff_ne.2 (by have:=toNat_neP hc93;simp at this;omega);have hs:=beginValue_any B vi vo vt vm s c w h hq ht0 (by omega) (by omega);clear h hok ht0 hst hc93;cases hr:psBegin s c with
 |error n=>
  rw[hr]at hs;have HQ:=hid hs;clear hs hr;go_enter Tryz.func85,Tryz.ntmps85
  go_wp2_with fail
  refine Calls.mono HQ.out ?_;rintro e w2 ⟨rfl,hF⟩;exact⟨rfl,rfl,hF⟩
 |ok s'=>
  rw[hr]at hs;have HQ:=hid hs;clear hs hr;go_enter Tryz.func85,Tryz.ntmps85
  go_wp2_with fail
  refine Calls.mono HQ.out ?_;rintro e w2 ⟨rfl,hp⟩;have HR:=hid hp;clear hp;go_wp2;go_end0;exact⟨rfl,HR.out⟩
theorem between1b (B:Nat) (vi vo vt vm:Value) (s:Ps) (m k:Nat) (c:UInt8) (w:World) (h:PR B w vi vo vt vm s) (hq:Nn vt vm) (hok:PsOk s m k) (hm:m≤10000000) (hst:s.st=1) (hc93:c=93):
 Calls Tryz.prog 85 #[.pointer (some ⟨B,0,none⟩),.int .u8 (c.toNat:Int)] w (PDone B s.came (own B vi vo vt vm) w (.ok (psEndInner s))):=by
 have hu:=And.intro hq hm;clear hu;have H:=hid (PC.start h);have HP:=hid h;have f4:=blk_free (j:=4) h.blk;have k4:=blk_cell h.blk (show(psCells s vi vo vt vm)[4]? =some (.int .i64 (s.st:Int))from rfl);rw[hst]at k4;have ht0:=hok.tok (by omega);have hil:=hok.c.iln;have hoo:=hok.c.oln;have hd2:=hok.c.dep2;have q93:((c.toNat:Int)==93)=true:=by rw[hc93];rfl
 obtain⟨pre,i,ho⟩:∃pre i,s.opn=pre++[i]:=by
  rcases List.eq_nil_or_concat s.opn with h0|⟨pre,i,h1⟩
  ·exact absurd h0 (hok.o13 (by omega))
  ·exact⟨pre,i,by rw[h1,List.concat_eq_append]⟩
 have HQ:=hid (endInner_any B vi vo vt vm s pre i w h hq ho (hok.c.ok hm) (by omega) (by rw[ho]at hoo;simp at hoo;omega));clear h hok ht0 hst ho hc93;go_enter Tryz.func85,Tryz.ntmps85
 go_wp2_with fail
 refine Calls.mono HQ.out ?_;rintro e w2 ⟨rfl,hp⟩;have HR:=hid hp;clear hp;go_wp2;go_end0;exact⟨rfl,HR.out⟩
theorem between3b (B:Nat) (vi vo vt vm:Value) (s:Ps) (m k:Nat) (c:UInt8) (w:World) (h:PR B w vi vo vt vm s) (hq:Nn vt vm) (hok:PsOk s m k) (hm:m≤10000000) (hst:s.st=3) (hc125:c=125):
 Calls Tryz.prog 85 #[.pointer (some ⟨B,0,none⟩),.int .u8 (c.toNat:Int)] w (PDone B s.came (own B vi vo vt vm) w (.ok (psEndInner s))):=by
 have hu:=And.intro hq hm;clear hu;have H:=hid (PC.start h);have HP:=hid h;have f4:=blk_free (j:=4) h.blk;have k4:=blk_cell h.blk (show(psCells s vi vo vt vm)[4]? =some (.int .i64 (s.st:Int))from rfl);rw[hst]at k4;have ht0:=hok.tok (by omega);have hil:=hok.c.iln;have hoo:=hok.c.oln;have hd2:=hok.c.dep2;have q125:((c.toNat:Int)==125)=true:=by rw[hc125];rfl
 obtain⟨pre,i,ho⟩:∃pre i,s.opn=pre++[i]:=by
  rcases List.eq_nil_or_concat s.opn with h0|⟨pre,i,h1⟩
  ·exact absurd h0 (hok.o13 (by omega))
  ·exact⟨pre,i,by rw[h1,List.concat_eq_append]⟩
 have HQ:=hid (endInner_any B vi vo vt vm s pre i w h hq ho (hok.c.ok hm) (by omega) (by rw[ho]at hoo;simp at hoo;omega));clear h hok ht0 hst ho hc125;go_enter Tryz.func85,Tryz.ntmps85
 go_wp2_with fail
 refine Calls.mono HQ.out ?_;rintro e w2 ⟨rfl,hp⟩;have HR:=hid hp;clear hp;go_wp2;go_end0;exact⟨rfl,HR.out⟩
theorem between2a (B:Nat) (vi vo vt vm:Value) (s:Ps) (m k:Nat) (c:UInt8) (w:World) (h:PR B w vi vo vt vm s) (hq:Nn vt vm) (hok:PsOk s m k) (hm:m≤10000000) (hst:s.st=2) (hc34:c=34):
 Calls Tryz.prog 85 #[.pointer (some ⟨B,0,none⟩),.int .u8 (c.toNat:Int)] w (PDone B s.came (own B vi vo vt vm) w (.ok (psSt s 8))):=by
 have hu:=And.intro hq hm;clear hu;have H:=hid (PC.start h);have HP:=hid h;have f4:=blk_free (j:=4) h.blk;have k4:=blk_cell h.blk (show(psCells s vi vo vt vm)[4]? =some (.int .i64 (s.st:Int))from rfl);rw[hst]at k4;have ht0:=hok.tok (by omega);have hil:=hok.c.iln;have hoo:=hok.c.oln;have hd2:=hok.c.dep2;have q34:((c.toNat:Int)==34)=true:=by rw[hc34];rfl
 have HR:=hid (H.out.cell 4 (.int .i64 8) (psSt s 8) rfl rfl rfl rfl rfl);clear h hok ht0 hst hc34;go_enter Tryz.func85,Tryz.ntmps85;go_wp2;go_end0;exact⟨rfl,_,_,_,_,HR.out,hq.q _⟩
theorem between2b (B:Nat) (vi vo vt vm:Value) (s:Ps) (m k:Nat) (c:UInt8) (w:World) (h:PR B w vi vo vt vm s) (hq:Nn vt vm) (hok:PsOk s m k) (hm:m≤10000000) (hst:s.st=2) (hc34:c≠34):
 Calls Tryz.prog 85 #[.pointer (some ⟨B,0,none⟩),.int .u8 (c.toNat:Int)] w (PDone B s.came (own B vi vo vt vm) w (.error 3)):=by
 have hu:=And.intro hq hm;clear hu;have H:=hid (PC.start h);have HP:=hid h;have f4:=blk_free (j:=4) h.blk;have k4:=blk_cell h.blk (show(psCells s vi vo vt vm)[4]? =some (.int .i64 (s.st:Int))from rfl);rw[hst]at k4;have ht0:=hok.tok (by omega);have hil:=hok.c.iln;have hoo:=hok.c.oln;have hd2:=hok.c.dep2;have q34:((c.toNat:Int)==34)=false:=beq_eq_false_iff_ne.2 (by have:=toNat_neP hc34;simp at this;omega);clear h hok ht0 hst hc34;go_enter Tryz.func85,Tryz.ntmps85;go_wp2;exact⟨rfl,rfl,PErr.same HP.out (Fr.refl _ _)⟩
theorem between3a (B:Nat) (vi vo vt vm:Value) (s:Ps) (m k:Nat) (c:UInt8) (w:World) (h:PR B w vi vo vt vm s) (hq:Nn vt vm) (hok:PsOk s m k) (hm:m≤10000000) (hst:s.st=3) (hc125:c≠125) (hc34:c=34):
 Calls Tryz.prog 85 #[.pointer (some ⟨B,0,none⟩),.int .u8 (c.toNat:Int)] w (PDone B s.came (own B vi vo vt vm) w (.ok (psSt s 8))):=by
 have hu:=And.intro hq hm;clear hu;have H:=hid (PC.start h);have HP:=hid h;have f4:=blk_free (j:=4) h.blk;have k4:=blk_cell h.blk (show(psCells s vi vo vt vm)[4]? =some (.int .i64 (s.st:Int))from rfl);rw[hst]at k4;have ht0:=hok.tok (by omega);have hil:=hok.c.iln;have hoo:=hok.c.oln;have hd2:=hok.c.dep2;have q125:((c.toNat:Int)==125)=false:=beq_eq_false_iff_ne.2 (by have:=toNat_neP hc125;simp at this;omega);have q34:((c.toNat:Int)==34)=true:=by rw[hc34];rfl
 have HR:=hid (H.out.cell 4 (.int .i64 8) (psSt s 8) rfl rfl rfl rfl rfl);clear h hok ht0 hst hc34 hc125;go_enter Tryz.func85,Tryz.ntmps85;go_wp2;go_end0;exact⟨rfl,_,_,_,_,HR.out,hq.q _⟩
theorem between3c (B:Nat) (vi vo vt vm:Value) (s:Ps) (m k:Nat) (c:UInt8) (w:World) (h:PR B w vi vo vt vm s) (hq:Nn vt vm) (hok:PsOk s m k) (hm:m≤10000000) (hst:s.st=3) (hc125:c≠125) (hc34:c≠34):
 Calls Tryz.prog 85 #[.pointer (some ⟨B,0,none⟩),.int .u8 (c.toNat:Int)] w (PDone B s.came (own B vi vo vt vm) w (.error 3)):=by
 have hu:=And.intro hq hm;clear hu;have H:=hid (PC.start h);have HP:=hid h;have f4:=blk_free (j:=4) h.blk;have k4:=blk_cell h.blk (show(psCells s vi vo vt vm)[4]? =some (.int .i64 (s.st:Int))from rfl);rw[hst]at k4;have ht0:=hok.tok (by omega);have hil:=hok.c.iln;have hoo:=hok.c.oln;have hd2:=hok.c.dep2;have q125:((c.toNat:Int)==125)=false:=beq_eq_false_iff_ne.2 (by have:=toNat_neP hc125;simp at this;omega);have q34:((c.toNat:Int)==34)=false:=beq_eq_false_iff_ne.2 (by have:=toNat_neP hc34;simp at this;omega);clear h hok ht0 hst hc34 hc125;go_enter Tryz.func85,Tryz.ntmps85;go_wp2;exact⟨rfl,rfl,PErr.same HP.out (Fr.refl _ _)⟩
theorem between4a (B:Nat) (vi vo vt vm:Value) (s:Ps) (m k:Nat) (c:UInt8) (w:World) (h:PR B w vi vo vt vm s) (hq:Nn vt vm) (hok:PsOk s m k) (hm:m≤10000000) (hst:s.st=4) (hc58:c=58):
 Calls Tryz.prog 85 #[.pointer (some ⟨B,0,none⟩),.int .u8 (c.toNat:Int)] w (PDone B s.came (own B vi vo vt vm) w (.ok (psSt s 0))):=by
 have hu:=And.intro hq hm;clear hu;have H:=hid (PC.start h);have HP:=hid h;have f4:=blk_free (j:=4) h.blk;have k4:=blk_cell h.blk (show(psCells s vi vo vt vm)[4]? =some (.int .i64 (s.st:Int))from rfl);rw[hst]at k4;have ht0:=hok.tok (by omega);have hil:=hok.c.iln;have hoo:=hok.c.oln;have hd2:=hok.c.dep2;have q58:((c.toNat:Int)==58)=true:=by rw[hc58];rfl
 have HR:=hid (H.out.cell 4 (.int .i64 0) (psSt s 0) rfl rfl rfl rfl rfl);clear h hok ht0 hst hc58;go_enter Tryz.func85,Tryz.ntmps85;go_wp2;go_end0;exact⟨rfl,_,_,_,_,HR.out,hq.q _⟩
theorem between4b (B:Nat) (vi vo vt vm:Value) (s:Ps) (m k:Nat) (c:UInt8) (w:World) (h:PR B w vi vo vt vm s) (hq:Nn vt vm) (hok:PsOk s m k) (hm:m≤10000000) (hst:s.st=4) (hc58:c≠58):
 Calls Tryz.prog 85 #[.pointer (some ⟨B,0,none⟩),.int .u8 (c.toNat:Int)] w (PDone B s.came (own B vi vo vt vm) w (.error 3)):=by
 have hu:=And.intro hq hm;clear hu;have H:=hid (PC.start h);have HP:=hid h;have f4:=blk_free (j:=4) h.blk;have k4:=blk_cell h.blk (show(psCells s vi vo vt vm)[4]? =some (.int .i64 (s.st:Int))from rfl);rw[hst]at k4;have ht0:=hok.tok (by omega);have hil:=hok.c.iln;have hoo:=hok.c.oln;have hd2:=hok.c.dep2;have q58:((c.toNat:Int)==58)=false:=beq_eq_false_iff_ne.2 (by have:=toNat_neP hc58;simp at this;omega);clear h hok ht0 hst hc58;go_enter Tryz.func85,Tryz.ntmps85;go_wp2;exact⟨rfl,rfl,PErr.same HP.out (Fr.refl _ _)⟩
theorem between5a (B:Nat) (vi vo vt vm:Value) (s:Ps) (m k:Nat) (c:UInt8) (w:World) (h:PR B w vi vo vt vm s) (hq:Nn vt vm) (hok:PsOk s m k) (hm:m≤10000000) (hst:s.st=5) (ho:s.opn=[]):
 Calls Tryz.prog 85 #[.pointer (some ⟨B,0,none⟩),.int .u8 (c.toNat:Int)] w (PDone B s.came (own B vi vo vt vm) w (.error 3)):=by
 have hu:=And.intro hq hm;clear hu;have H:=hid (PC.start h);have HP:=hid h;have f4:=blk_free (j:=4) h.blk;have k4:=blk_cell h.blk (show(psCells s vi vo vt vm)[4]? =some (.int .i64 (s.st:Int))from rfl);rw[hst]at k4;have ht0:=hok.tok (by omega);have hil:=hok.c.iln;have hoo:=hok.c.oln;have hd2:=hok.c.dep2;have hoo2:=h.oo;rw[ho]at hoo2;obtain⟨a,n,cap,rfl⟩:=row_shape3 hoo2
 have hn:n=0:=by
  rcases hoo2.2 with⟨h,_⟩|⟨_,_,_,h,_⟩
  ·simp at h;exact h.2.1
  ·simp at h;exact h.2.1
 subst hn;have k6:=blk_cell h.blk (show(psCells s vi (.slice a 0 cap) vt vm)[6]? =some (.slice a 0 cap)from rfl);clear hoo2;clear h hok ht0 hst ho;go_enter Tryz.func85,Tryz.ntmps85;go_wp2;exact⟨rfl,rfl,PErr.same HP.out (Fr.refl _ _)⟩
theorem between5b (B:Nat) (vi vo vt vm:Value) (s:Ps) (m k:Nat) (c:UInt8) (w:World) (h:PR B w vi vo vt vm s) (hq:Nn vt vm) (hok:PsOk s m k) (hm:m≤10000000) (hst:s.st=5) (ho:s.opn≠[]):
 Calls Tryz.prog 85 #[.pointer (some ⟨B,0,none⟩),.int .u8 (c.toNat:Int)] w (PDone B s.came (own B vi vo vt vm) w (psBehind s c)):=by
 have hu:=And.intro hq hm;clear hu;have H:=hid (PC.start h);have HP:=hid h;have f4:=blk_free (j:=4) h.blk;have k4:=blk_cell h.blk (show(psCells s vi vo vt vm)[4]? =some (.int .i64 (s.st:Int))from rfl);rw[hst]at k4;have ht0:=hok.tok (by omega);have hil:=hok.c.iln;have hoo:=hok.c.oln;have hd2:=hok.c.dep2
 obtain⟨pre,i,ho1⟩:∃pre i,s.opn=pre++[i]:=by
  rcases List.eq_nil_or_concat s.opn with h0|⟨pre,i,h1⟩
  ·exact absurd h0 ho
  ·exact⟨pre,i,by rw[h1,List.concat_eq_append]⟩
 obtain⟨x,hx,_⟩:=hok.c.opn i (by rw[ho1];simp);have hol:pre.length+1=s.opn.length:=by rw[ho1];simp
 have hs:=takeBehind_any B vi vo vt vm s pre i x c w h hq ho1 hx (hok.c.ok hm) (by omega) (by omega);have hoo2:=h.oo;rw[←hol]at hoo2;obtain⟨go,co,rfl⟩:=row_pos hoo2 (by omega);have k6:=blk_cell h.blk (show(psCells s vi (.slice (some ⟨go,0,none⟩) (pre.length+1) co) vt vm)[6]? =some (.slice (some ⟨go,0,none⟩) (pre.length+1) co)from rfl);have hpos:0<pre.length+1:=by omega
 clear h hok ht0 hst ho ho1 hx hol hoo2;generalize pre.length+1=M at*;cases hr:psBehind s c with
 |error n=>
  rw[hr]at hs;have HQ:=hid hs;clear hs hr;go_enter Tryz.func85,Tryz.ntmps85
  go_wp2_with fail
  refine Calls.mono HQ.out ?_;rintro e w2 ⟨rfl,hF⟩;exact⟨rfl,rfl,hF⟩
 |ok s'=>
  rw[hr]at hs;have HQ:=hid hs;clear hs hr;go_enter Tryz.func85,Tryz.ntmps85
  go_wp2_with fail
  refine Calls.mono HQ.out ?_;rintro e w2 ⟨rfl,hp⟩;have HR:=hid hp;clear hp;go_wp2;go_end0;exact⟨rfl,HR.out⟩
theorem takeBetween_any (B:Nat) (vi vo vt vm:Value) (s:Ps) (m k:Nat) (c:UInt8) (w:World) (h:PR B w vi vo vt vm s) (hq:Nn vt vm) (hok:PsOk s m k) (hm:m≤10000000) (hst:s.st≤5):
 Calls Tryz.prog 85 #[.pointer (some ⟨B,0,none⟩),.int .u8 (c.toNat:Int)] w (PDone B s.came (own B vi vo vt vm) w (psBetween s c)):=by
 unfold psBetween;rcases(show s.st=0∨s.st=1∨s.st=2∨s.st=3∨s.st=4∨s.st=5 by omega)with h0|h0|h0|h0|h0|h0
 ·rw[if_neg (by omega),if_pos (.inl h0)]
  exact between0 B vi vo vt vm s m k c w h hq hok hm h0
 ·by_cases hc:c=93
  ·rw[if_pos (.inl ⟨h0,hc⟩)]
   exact between1b B vi vo vt vm s m k c w h hq hok hm h0 hc
  ·rw[if_neg (by rintro(⟨_,h⟩|⟨h,_⟩);exact hc h;omega),if_pos (.inr h0)]
   exact between1a B vi vo vt vm s m k c w h hq hok hm h0 hc
 ·rw[if_neg (by omega),if_neg (by omega)]
  by_cases hc:c=34
  ·rw[if_pos ⟨.inl h0,hc⟩]
   exact between2a B vi vo vt vm s m k c w h hq hok hm h0 hc
  ·rw[if_neg (fun h=>hc h.2),if_neg (by omega),if_neg (by omega)]
   exact between2b B vi vo vt vm s m k c w h hq hok hm h0 hc
 ·by_cases hc:c=125
  ·rw[if_pos (.inr ⟨h0,hc⟩)]
   exact between3b B vi vo vt vm s m k c w h hq hok hm h0 hc
  ·rw[if_neg (by rintro(⟨h,_⟩|⟨_,h⟩);omega;exact hc h),if_neg (by omega)]
   by_cases hc2:c=34
   ·rw[if_pos ⟨.inr h0,hc2⟩]
    exact between3a B vi vo vt vm s m k c w h hq hok hm h0 hc hc2
   ·rw[if_neg (fun h=>hc2 h.2),if_neg (by omega),if_neg (by omega)]
    exact between3c B vi vo vt vm s m k c w h hq hok hm h0 hc hc2
 ·rw[if_neg (by omega),if_neg (by omega),if_neg (by omega)]
  by_cases hc:c=58
  ·rw[if_pos ⟨h0,hc⟩]
   exact between4a B vi vo vt vm s m k c w h hq hok hm h0 hc
  ·rw[if_neg (fun h=>hc h.2),if_neg (by omega)]
   exact between4b B vi vo vt vm s m k c w h hq hok hm h0 hc
 ·rw[if_neg (by omega),if_neg (by omega),if_neg (by omega),if_neg (by omega)]
  by_cases ho:s.opn=[]
  ·rw[if_neg (fun h=>h.2 ho)]
   exact between5a B vi vo vt vm s m k c w h hq hok hm h0 ho
  ·rw[if_pos ⟨h0,ho⟩]
   exact between5b B vi vo vt vm s m k c w h hq hok hm h0 ho
def setL (W:World) (B:Nat) (l:List (Nat×Value)):World:=l.foldl (fun W p=>W.setCell ⟨B,p.1,none⟩ p.2) W
theorem setL_blk {W:World} {B T:Nat} {a:Array Value} (l:List (Nat×Value)) (h:W.heap[B]? =some (.cells a T (0,0))):(setL W B l).heap[B]? =some (.cells (l.foldl (fun a p=>a.setIfInBounds p.1 p.2) a) T (0,0)):=by
 induction l generalizing W a with
 |nil=>exact h
 |cons p l ih=>exact ih (heap_setCell_same W B p.1 a T p.2 h)
theorem setL_row {W:World} {B e size n:Nat} {v:Value} {xs:List Value} (l:List (Nat×Value)) (h:W.ownsRow 0 e size v n xs) (hb:v.ownBlock≠some B):(setL W B l).ownsRow 0 e size v n xs:=by
 induction l generalizing W with
 |nil=>exact h
 |cons p l ih=>exact ih (rowSetOther h (a:=⟨B,p.1,none⟩) hb p.2)
theorem setL_fr {S:Nat→Prop} {w0 W:World} {B:Nat} (l:List (Nat×Value)) (h:Fr S w0 W) (hb:S B∨w0.heap.size≤B):Fr S w0 (setL W B l):=by
 induction l generalizing W with
 |nil=>exact h
 |cons p l ih=>exact ih (h.setCell (p:=⟨B,p.1,none⟩) hb p.2)
theorem row_nil (W:World) (e size:Nat):W.ownsRow 0 e size (.slice none 0 0) 0 []:=⟨by simp,.inl ⟨rfl,rfl⟩⟩
def tokNilL:List (Nat×Value):=[(8,.int .i64 0),(9,.bool false),(10,.slice none 0 0),(11,.int .i64 0),(12,.int .i64 0),(13,.bool false)]
def txNilL:List (Nat×Value):=[(14,.int .i64 0),(15,.slice none 0 0),(16,.int .i64 0),(17,.int .u8 0),(18,.int .u8 0),(19,.int .i64 0),(20,.int .i32 0),(21,.int .i32 0)]
theorem cells_tokNil (s:Ps) (vi vo vt vm:Value):tokNilL.foldl (fun a p=>a.setIfInBounds p.1 p.2) (psCells s vi vo vt vm)=psCells ⟨s.depth,s.came,s.st,s.items,s.opn,s.word,t0,s.tx⟩ vi vo (.slice none 0 0) vm:=by
 simp[tokNilL,psCells,t0]
theorem cells_txNil (s:Ps) (vi vo vt vm:Value):txNilL.foldl (fun a p=>a.setIfInBounds p.1 p.2) (psCells s vi vo vt vm)=psCells ⟨s.depth,s.came,s.st,s.items,s.opn,s.word,s.tok,tr0⟩ vi vo vt (.slice none 0 0):=by
 simp[txNilL,psCells,tr0]
theorem PC.tokNil {B:Nat} {S:Nat→Prop} {w0 W:World} {vi vo vt vm:Value} {s:Ps} (h:PC B S w0 vi vo vt vm W s):PC B S w0 vi vo (.slice none 0 0) vm (setL W B tokNilL) ⟨s.depth,s.came,s.st,s.items,s.opn,s.word,t0,s.tx⟩:=by
 obtain⟨⟨a,b,c,d,e,f⟩,g,k⟩:=h;refine⟨⟨(setL_blk tokNilL a).trans (by rw[cells_tokNil]),setL_row _ b (rowT b a (by decide)),setL_row _ c (rowT c a (by decide)),row_nil _ 5 1,setL_row _ e (rowT e a (by decide)),.inl rfl⟩,setL_fr _ g (k B (.inl rfl)),?_⟩;intro i hi;rcases hi with hi|hi|hi|hi|hi
 ·exact k i (.inl hi)
 ·exact k i (.inr (.inl hi))
 ·exact k i (.inr (.inr (.inl hi)))
 ·cases hi
 ·exact k i (.inr (.inr (.inr (.inr hi))))
theorem PC.txNil {B:Nat} {S:Nat→Prop} {w0 W:World} {vi vo vt vm:Value} {s:Ps} (h:PC B S w0 vi vo vt vm W s):PC B S w0 vi vo vt (.slice none 0 0) (setL W B txNilL) ⟨s.depth,s.came,s.st,s.items,s.opn,s.word,s.tok,tr0⟩:=by
 obtain⟨⟨a,b,c,d,e,f⟩,g,k⟩:=h;refine⟨⟨(setL_blk txNilL a).trans (by rw[cells_txNil]),setL_row _ b (rowT b a (by decide)),setL_row _ c (rowT c a (by decide)),setL_row _ d (rowT d a (by decide)),row_nil _ 5 1,.inr rfl⟩,setL_fr _ g (k B (.inl rfl)),?_⟩;intro i hi;rcases hi with hi|hi|hi|hi|hi
 ·exact k i (.inl hi)
 ·exact k i (.inr (.inl hi))
 ·exact k i (.inr (.inr (.inl hi)))
 ·exact k i (.inr (.inr (.inr (.inl hi))))
 ·cases hi
theorem PC.same {B:Nat} {S:Nat→Prop} {w0 W w':World} {vi vo vt vm:Value} {s:Ps} (h:PC B S w0 vi vo vt vm W s) (hF:Fr (fun _=>False) W w'):PC B S w0 vi vo vt vm w' s:=by
 obtain⟨⟨a,b,c,d,e,f⟩,g,k⟩:=h;exact⟨⟨hF.heap a id,rowFr b hF (fun _ _=>id),rowFr c hF (fun _ _=>id),rowFr d hF (fun _ _=>id),rowFr e hF (fun _ _=>id),f⟩,g.trans' hF (fun _ h=>h.elim),k⟩
theorem tokValue (B:Nat) (cs:Array Value) (v:Value) (t:Tk) (k:Nat) (w:World) (hk:k≤1000000000000000) (hok:TkOk t k) (ht:TkAt 0 w B 8 113 cs v t):
 Calls Tryz.prog 37 #[.pointer (some ⟨B,8,none⟩)] w fun e w'=>e=.returned (.tuple #[.int .u64 ((tokV t).1:Nat),.int .i64 ((tokV t).2:Nat)])∧Fr (fun _=>False) w w':=by
 by_cases hE:Ends t.st
 ·refine(value_some 0 B 8 113 cs v t w k hk hok ht hE).mono ?_
  rintro e w' ⟨r,hr,rfl,hF⟩;refine⟨?_,hF⟩;rw[tokV,if_pos hE,nearF_eq hok.digs hok.head hr]
 ·refine(value_none 0 B 8 113 cs v t w ht hE).mono ?_
  rintro e w' ⟨rfl,rfl⟩;refine⟨?_,Fr.refl _ _⟩;rw[tokV,if_neg hE];rfl
theorem lost_any (B o T:Nat) (cs:Array Value) (v:Value) (t:Tk) (k:Nat) (w:World) (hk:k≤1000000000000000) (hok:TkOk t k) (ht:TkAt 0 w B o T cs v t):
 Calls Tryz.prog 136 #[.pointer (some ⟨B,o,none⟩)] w fun e w'=>e=.returned (.bool (tokLost t))∧Fr (fun _=>False) w w':=by
 have hp1:=hok.p1;have hp2:=hok.p2;have hpw:=hok.pw;have hlen:=hok.len;obtain⟨hh,hI,ho⟩:=ht;have hc0:=blk_cell hh hI.c0;have hc2:=blk_cell hh hI.c2;have hc3:=blk_cell hh hI.c3;have hc4:=blk_cell hh hI.c4;have hc5:=blk_cell hh hI.c5;have hBl:=lt_of_block hh;obtain⟨a,cap,rfl⟩:=row_shape ho;have HO:=hid ho;have HD:=hid hok.digs;unfold tokLost;clear hok hI ho hh;by_cases h7:7≤t.st
 ·have g7:decide (7≤(t.st:Int))=true:=decide_eq_true (by omega)
  rw[decide_eq_true h7];clear h7;cases hn:t.pn
  ·rw[hn]at hc5
   have HA:=hid (show(if false=true then t.P-(t.pw:Int)else t.P+(t.pw:Int))=t.at by rw[Tk.at,hn]);clear hn;go_enter Tryz.func136,Tryz.ntmps136
   go_wp2_with fail
   refine(decimalOf_any B o _ t.P t.pw false _ hc2 hc3 hc4 hc5 hBl a t.D.length cap rfl (by omega) (by omega) (by omega)).mono ?_;rintro e w1 ⟨rfl,hF1⟩;rw[HA.out];have HF1:=hid hF1;have HO1:=hid (ownsRow_fr HO.out HF1.out);clear hF1 hc0 hc2 hc3 hc4 hc5
   go_wp2_with fail
   refine(outOfRange_any _ t.D t.at _ HD.out (by omega) HO1.out).mono ?_;rintro e w2 ⟨rfl,hF2⟩;have HF2:=hid (HF1.out.trans hF2);clear hF2;go_wp2;go_ret;exact⟨rfl,HF2.out⟩
  ·rw[hn]at hc5
   clear hn;go_enter Tryz.func136,Tryz.ntmps136;go_wp2;go_ret;exact⟨rfl,Fr.refl _ _⟩
 ·have g7:decide (7≤(t.st:Int))=false:=decide_eq_false (by omega)
  rw[decide_eq_false h7];clear h7;go_enter Tryz.func136,Tryz.ntmps136;go_wp2;go_ret;exact⟨rfl,Fr.refl _ _⟩
def ETDone (B:Nat) (S:Nat→Prop) (w:World) (r:Except Nat Ps) (e:Ending) (w':World):Prop:=
 match r with
 |.ok s'=>e=.returned (.int .i64 0)∧PSt B S w w' s'
 |.error n=>e=.returned (.int .i64 (n:Int))∧Fr (fun _=>False) w w'
theorem endToken_any (B:Nat) (vi vo vt vm:Value) (s:Ps) (m k:Nat) (w:World) (h:PR B w vi vo vt vm s) (hvm:vm.ownBlock=none) (hok:PsOk s m k) (hm:m≤5000000) (hk:k≤10000000):
 Calls Tryz.prog 86 #[.pointer (some ⟨B,0,none⟩)] w (ETDone B (own B vi vo vt vm) w (psEndTok s)):=by
 have HT:=hid (tokValue B _ vt s.tok k w (by omega) hok.tk1 h.tkAt);have H:=hid (PC.start h);have hoo:=hok.c.oln;have hii:=hok.c.iln;unfold psEndTok;generalize hb:(tokV s.tok).1=b at*;generalize he:(tokV s.tok).2=y at*;have k5:=blk_cell h.blk (show(psCells s vi vo vt vm)[5]? =some vi from rfl);have hBl:=lt_of_block h.blk;by_cases hy:y≠0
 ·rw[if_pos hy]
  have gy:((y:Int)!=0)=true:=bne_iff_ne.2 (by omega);clear h hok hb he hy;go_enter Tryz.func86,Tryz.ntmps86
  go_wp2_with fail
  refine Calls.mono HT.out ?_;rintro e w1 ⟨rfl,hF⟩;have HF:=hid hF;clear hF;go_wp2;go_ret;exact⟨rfl,HF.out⟩
 ·rw[if_neg hy]
  have gy:((y:Int)!=0)=false:=by
   have:y=0:=by omega
   subst this;rfl
  have HE:=hid (fun (w:World) (ui:Value) (hp:PR B w ui vo (.slice none 0 0) vm ⟨s.depth,s.came,s.st,s.items++[⟨3,0,b,[]⟩],s.opn,s.word,t0,s.tx⟩)=>endValue_any B ui vo (.slice none 0 0) vm ⟨s.depth,s.came,s.st,s.items++[⟨3,0,b,[]⟩],s.opn,s.word,t0,s.tx⟩ w hp ⟨rfl,hvm⟩ ((hok.c.item ⟨3,0,b,[]⟩ s.st s.word hok.c.wln t0 s.tx).ok (by omega)) (by show(s.items++[_]).length≤_;simp;omega) (by show s.opn.length≤_;omega));obtain⟨i0,hi,hz0,hz1,hz2⟩:=info_parts Tryz.info29;have oi:=h.oi;obtain⟨a,n,cap,rfl⟩:=row_shape3 oi;clear h hok hb he hy;go_enter Tryz.func86,Tryz.ntmps86
  go_wp2_with fail
  refine Calls.mono HT.out ?_;rintro e w1 ⟨rfl,hF⟩;have H1:=hid (H.out.same hF);have j5:=(hF.cell (p:=⟨B,5,none⟩) hBl id).trans k5;have OI:=hid (rowFr oi hF (fun _ _=>id));clear hF k5 oi
  go_wp2_with (at_builtin;refine wpList_append_d _ rfl _ _ 22 rfl 29 i0 (.agg #[.int .i64 0,.int .i64 0,.int .u64 0,.string ⟨#[]⟩]) 4 40 Tryz.underlying22 hi hz0 hz1 hz2 rfl (by decide) _ _ _ rfl (OI.out.alloc _) ⟨w1.heap.size,0,none⟩ 1 1 (itCells ⟨3,0,b,[]⟩) rfl rfl ?c1 ?c2 ?c3 ?c4 ?_)
  case c1=>exact four_new _ _ _ _ _ _
  case c2=>intro u hu;simp[itCells]at hu;rcases hu with rfl|rfl|rfl|rfl<;>rfl
  case c3=>unfold maxLen;omega
  case c4=>omega
  intro v' w2 hown' hgrow hnew;obtain⟨a',n',cap',rfl⟩:=row_shape3 hown';obtain⟨hh1,hR⟩:=H1.out.growI ⟨3,0,b,[]⟩ hown' hgrow hnew;have q5:=blk_cell hh1 (show(psCells s (.slice a n cap) vo vt vm)[5]? =some (.slice a n cap)from rfl);have q8:=blk_cell hh1 (show(psCells s (.slice a n cap) vo vt vm)[8]? =some (.int .i64 (s.tok.st:Int))from rfl);have q9:=blk_cell hh1 (show(psCells s (.slice a n cap) vo vt vm)[9]? =some (.bool s.tok.neg)from rfl);have q10:=blk_cell hh1 (show(psCells s (.slice a n cap) vo vt vm)[10]? =some vt from rfl);have q11:=blk_cell hh1 (show(psCells s (.slice a n cap) vo vt vm)[11]? =some (.int .i64 s.tok.P)from rfl);have q12:=blk_cell hh1 (show(psCells s (.slice a n cap) vo vt vm)[12]? =some (.int .i64 (s.tok.pw:Int))from rfl);have q13:=blk_cell hh1 (show(psCells s (.slice a n cap) vo vt vm)[13]? =some (.bool s.tok.pn)from rfl);have p5:=blk_free (j:=5) hh1;have p8:=blk_free (j:=8) hh1;have p9:=blk_free (j:=9) hh1;have p10:=blk_free (j:=10) hh1;have p11:=blk_free (j:=11) hh1;have p12:=blk_free (j:=12) hh1;have p13:=blk_free (j:=13) hh1;have HR:=hid hR.tokNil;clear hown' hgrow hnew hh1 hR
  go_wp2_with fail
  refine Calls.mono (HE.out _ _ HR.out.pr) ?_;rintro e w3 ⟨rfl,hp⟩;have HQ:=hid (HR.out.trans hp);clear hp;go_wp2;go_ret;exact⟨rfl,HQ.out⟩
theorem take_out (B:Nat) (vi vo vt vm:Value) (s:Ps) (m k:Nat) (c:UInt8) (w:World) (h:PR B w vi vo vt vm s) (hq:Nn vt vm) (hok:PsOk s m k) (hm:m≤10000000) (hst:s.st≤5):
 Calls Tryz.prog 50 #[.pointer (some ⟨B,0,none⟩),.int .u8 (c.toNat:Int)] w (PDone B s.came (own B vi vo vt vm) w (psOut s c)):=by
 have H:=hid (PC.start h);have k4:=blk_cell h.blk (show(psCells s vi vo vt vm)[4]? =some (.int .i64 (s.st:Int))from rfl);have e6:((s.st:Int)==6)=false:=beq_eq_false_iff_ne.2 (by omega);have e7:((s.st:Int)==7)=false:=beq_eq_false_iff_ne.2 (by omega);have e8:((s.st:Int)==8)=false:=beq_eq_false_iff_ne.2 (by omega);have e9:((s.st:Int)==9)=false:=beq_eq_false_iff_ne.2 (by omega);have HB:=hid (isBlank_any c w);unfold psOut;by_cases hb:blank c=true
 ·rw[if_pos hb]
  rw[hb]at HB;clear h hok hb hst;go_enter Tryz.func50,Tryz.ntmps50
  go_wp2_with fail
  refine Calls.mono HB.out ?_;rintro e w1 ⟨rfl,rfl⟩;go_wp2;go_end0;exact⟨rfl,_,_,_,_,H.out,hq.q _⟩
 ·rw[if_neg hb]
  have hb':blank c=false:=by simpa using hb
  rw[hb']at HB;have hs:=takeBetween_any B vi vo vt vm s m k c w h hq hok hm hst;clear h hok hb hb' hst;cases hr:psBetween s c with
  |error n=>
   rw[hr]at hs;have HQ:=hid hs;clear hs hr;go_enter Tryz.func50,Tryz.ntmps50
   go_wp2_with fail
   refine Calls.mono HB.out ?_;rintro e w1 ⟨rfl,rfl⟩
   go_wp2_with fail
   refine Calls.mono HQ.out ?_;rintro e w2 ⟨rfl,hF⟩;exact⟨rfl,rfl,hF⟩
  |ok s'=>
   rw[hr]at hs;have HQ:=hid hs;clear hs hr;go_enter Tryz.func50,Tryz.ntmps50
   go_wp2_with fail
   refine Calls.mono HB.out ?_;rintro e w1 ⟨rfl,rfl⟩
   go_wp2_with fail
   refine Calls.mono HQ.out ?_;rintro e w2 ⟨rfl,hp⟩;have HR:=hid hp;clear hp;go_wp2;go_end0;exact⟨rfl,HR.out⟩
theorem PC.errs {B came:Nat} {S:Nat→Prop} {w0 W w':World} {vi vo vt vm:Value} {s:Ps} (h:PC B S w0 vi vo vt vm W s) (k:PErr B came (own B vi vo vt vm) W w'):PErr B came S w0 w':=by
 obtain⟨cs,a,b,c,d⟩:=k;exact⟨cs,a,b,c,h.fr.trans' d h.ow⟩
theorem takeOfToken_on (B:Nat) (vi vo vt vm:Value) (s:Ps) (m k:Nat) (c:UInt8) (w:World) (h:PR B w vi vo vt vm s) (hvm:vm.ownBlock=none) (hok:PsOk s m k) (hk:k≤10000000) (h7:s.st=7) (hb:beh s.tok.st c≠0):
 Calls Tryz.prog 82 #[.pointer (some ⟨B,0,none⟩),.int .u8 (c.toNat:Int)] w (PDone B s.came (own B vi vo vt vm) w (psTokOn s c)):=by
 have hx:nxt s.tok c=some (nxtTo s.tok c (beh s.tok.st c)):=by rw[nxt,if_neg hb]
 have hk2:=nxt_ok hok.tk1 hok.tk2 hx;unfold psTokOn;rw[hx];have HQ:=hid (next_some 0 B 8 113 _ vt s.tok c w k (by decide) (by omega) (by omega) hok.tk1 h.tkAt hb);have H:=hid (PC.start h);generalize nxtTo s.tok c (beh s.tok.st c)=t' at*;clear h hb hx;have HK:=hid hk2.1
 show Calls Tryz.prog 82 _ w (PDone B s.came (own B vi vo vt vm) w (if tokLost t'=true then .error 6 else .ok ⟨s.depth,s.came,s.st,s.items,s.opn,s.word,t',s.tx⟩))
 cases hl:tokLost t'
 ·rw[if_neg (by decide)]
  clear hk2 hok;go_enter Tryz.func82,Tryz.ntmps82
  go_wp2_with fail
  refine Calls.mono HQ.out ?_;rintro e w2 ⟨rfl,hp⟩;obtain⟨vt',hR⟩:=H.out.tok hvm hp;have HR:=hid hR;have HL:=hid (lost_any B 8 113 _ vt' t' (k+1) w2 (by omega) HK.out hR.pr.tkAt);rw[hl]at HL;clear hp hR hl
  go_wp2_with fail
  refine Calls.mono HL.out ?_;rintro e w3 ⟨rfl,hF⟩;have HF:=hid hF;clear hF;go_wp2;go_end0;exact⟨rfl,_,_,_,_,HR.out.same HF.out,fun h=>absurd h7 h,fun _ _=>hvm⟩
 ·rw[if_pos rfl]
  clear hk2 hok;go_enter Tryz.func82,Tryz.ntmps82
  go_wp2_with fail
  refine Calls.mono HQ.out ?_;rintro e w2 ⟨rfl,hp⟩;obtain⟨vt',hR⟩:=H.out.tok hvm hp;have HR:=hid hR;have HL:=hid (lost_any B 8 113 _ vt' t' (k+1) w2 (by omega) HK.out hR.pr.tkAt);rw[hl]at HL;clear hp hR hl
  go_wp2_with fail
  refine Calls.mono HL.out ?_;rintro e w3 ⟨rfl,hF⟩;have HF:=hid hF;clear hF;go_wp2;exact⟨rfl,rfl,(HR.out.same HF.out).err⟩
theorem psEndTok_came {s s':Ps} (e:psEndTok s=.ok s'):s'.came=s.came:=by
 unfold psEndTok at e;split at e
 ·cases e
 ·simp only[Except.ok.injEq]at e;subst e;rfl
theorem psEndTok_err {s:Ps} {n:Nat} (e:psEndTok s=.error n):n≠0:=by
 unfold psEndTok at e;split at e
 ·rename_i h
  simp only[Except.error.injEq]at e;subst e;exact h
 ·cases e
theorem takeOfToken_behind (B:Nat) (vi vo vt vm:Value) (s:Ps) (m k:Nat) (c:UInt8) (w:World) (h:PR B w vi vo vt vm s) (hvm:vm.ownBlock=none) (hok:PsOk s m k) (hm:m≤5000000) (hk:k≤10000000) (h7:s.st=7) (hb:beh s.tok.st c=0):
 Calls Tryz.prog 82 #[.pointer (some ⟨B,0,none⟩),.int .u8 (c.toNat:Int)] w (PDone B s.came (own B vi vo vt vm) w (psTokOn s c)):=by
 have hx:nxt s.tok c=none:=by rw[nxt,if_pos hb]
 have HQ:=hid (next_none 0 B 8 113 _ vt s.tok c w hok.tk1.st h.tkAt hb);have hs:=endToken_any B vi vo vt vm s m k w h hvm hok hm hk;have HP:=hid h;unfold psTokOn;rw[hx];cases hr:psEndTok s with
 |error n=>
  rw[hr]at hs;have HS:=hid hs;have gn:((n:Int)!=0)=true:=bne_iff_ne.2 (by have:=psEndTok_err hr;omega);clear h hb hx hs hr hok;go_enter Tryz.func82,Tryz.ntmps82
  go_wp2_with fail
  refine Calls.mono HQ.out ?_;rintro e w2 ⟨rfl,rfl⟩
  go_wp2_with fail
  refine Calls.mono HS.out ?_;rintro e w3 ⟨rfl,hF⟩;have HF:=hid hF;clear hF;go_wp2;exact⟨rfl,rfl,PErr.same HP.out HF.out⟩
 |ok s'=>
  rw[hr]at hs;have HS:=hid hs;obtain⟨hok2,h5⟩:=psEndTok_ok hok h7 hr;have HC:=hid (psEndTok_came hr);have HO:=hid hok2;clear h hb hx hs hr hok hok2
  show Calls Tryz.prog 82 _ w (PDone B s.came (own B vi vo vt vm) w (psOut s' c))
  cases hr2:psOut s' c with
  |error n=>
   go_enter Tryz.func82,Tryz.ntmps82
   go_wp2_with fail
   refine Calls.mono HQ.out ?_;rintro e w2 ⟨rfl,rfl⟩
   go_wp2_with fail
   refine Calls.mono HS.out ?_;rintro e w3 ⟨rfl,ui,uo,ut,um,hR,hQ⟩;have hs2:=take_out B ui uo ut um s' (m+2) k c w3 hR.pr ⟨hQ.1 (by omega),hQ.2 (by omega) (by omega)⟩ HO.out (by omega) (by omega);rw[hr2,HC.out]at hs2;have HS2:=hid hs2;have HR:=hid hR;clear hs2 hR hQ hr2
   go_wp2_with fail
   refine Calls.mono HS2.out ?_;rintro e w4 ⟨rfl,hF⟩;exact⟨rfl,rfl,HR.out.errs hF⟩
  |ok s2=>
   go_enter Tryz.func82,Tryz.ntmps82
   go_wp2_with fail
   refine Calls.mono HQ.out ?_;rintro e w2 ⟨rfl,rfl⟩
   go_wp2_with fail
   refine Calls.mono HS.out ?_;rintro e w3 ⟨rfl,ui,uo,ut,um,hR,hQ⟩;have hs2:=take_out B ui uo ut um s' (m+2) k c w3 hR.pr ⟨hQ.1 (by omega),hQ.2 (by omega) (by omega)⟩ HO.out (by omega) (by omega);rw[hr2]at hs2;have HS2:=hid hs2;have HR:=hid hR;clear hs2 hR hQ hr2
   go_wp2_with fail
   refine Calls.mono HS2.out ?_;rintro e w4 ⟨rfl,hp⟩;have HP2:=hid (HR.out.trans hp);clear hp;go_wp2;go_end0;exact⟨rfl,HP2.out⟩
end Go.Proofs.YtmkkibaacclhnaaGreatDoor
