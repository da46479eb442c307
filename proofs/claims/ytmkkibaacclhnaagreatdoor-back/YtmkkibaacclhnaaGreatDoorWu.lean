/-
  A step of the walk, the part named Wu. No theorem of the row.
-/
import Derived.Test.YtmkkibaacclhnaaGreatDoorWs
import Derived.Test.YtmkkibaacclhnaaGreatDoorWp
namespace Go.Proofs.YtmkkibaacclhnaaGreatDoor
open Go.RowKit
set_option maxRecDepth 100000
set_option maxHeartbeats 16000000
theorem WPost.trans {B:Nat} {w w1 w2:World} {vi vb:Value} {nx ind:Int} {so:Bool} {op:Nat} {vo vo1:Value} {bs:List UInt8} (hF:Fr (fun i=>i=B∨vo.ownBlock=some i) w w1) (hN:∀g,vo1.ownBlock=some g→vo.ownBlock=some g∨w.heap.size≤g) (h:WPost B w1 vi vb nx ind so op vo1 bs w2):WPost B w vi vb nx ind so op vo bs w2:=by
 obtain⟨vo2,h1,h2,h3⟩:=h;have hs:=hF.size;refine⟨vo2,h1,hF.trans' h2 ?_,fun g hg=>?_⟩
 ·rintro i (h|h)
  ·exact .inl (.inl h)
  ·rcases hN i h with h|h
   ·exact .inl (.inr h)
   ·exact .inr h
 ·rcases h3 g hg with h|h
  ·exact hN g h
  ·exact .inr (by omega)
theorem hex_get (m:Nat) (h:m<16):(ByteArray.mk #[48,49,50,51,52,53,54,55,56,57,97,98,99,100,101,102])[m]'h=hexB m:=by
 have:∀m:Fin 16,(ByteArray.mk #[48,49,50,51,52,53,54,55,56,57,97,98,99,100,101,102])[m.1]'m.2=hexB m.1:=by decide
 exact this ⟨m,h⟩
theorem and15 (n:Nat) (h:n<32):bits BinOp.and IntKind.i32 (n:Int) 15=((n % 16:Nat):Int):=by
 have:∀n:Fin 32,bits BinOp.and IntKind.i32 (n.1:Int) 15=((n.1 % 16:Nat):Int):=by decide
 exact this ⟨n,h⟩
theorem writeCode_any (B:Nat) (w:World) (vi vb:Value) (nx ind:Int) (so:Bool) (op:Nat) (ad vo:Value) (bs:List UInt8) (N:Nat) (h:WAt B w vi vb nx ind so op ad vo bs) (hl:bs.length≤99999999000) (hN:N<32):
 Calls Tryz.prog 127 #[.pointer (some ⟨B,0,none⟩),.int .i32 (N:Int)] w fun e w'=>e=.returned (.tuple #[])∧WPost B w vi vb nx ind so op vo (bs++[92,117,48,48,hexB (N/16),hexB (N % 16)]) w':=by
 have H1:=hid (writeString_any B w vi vb nx ind so op ad vo bs [92,117,48,48] h (by simp;omega));obtain⟨p,hp⟩:∃p,N/16=p:=⟨_,rfl⟩;obtain⟨q,hq⟩:∃q,N % 16=q:=⟨_,rfl⟩;have hp16:p<16:=by omega
 have hq16:q<16:=by omega
 have t1:(N:Int)/16=(p:Int):=by omega
 have t2:bits BinOp.and IntKind.i32 (N:Int) 15=(q:Int):=by rw[and15 N hN,hq]
 have g1:=hex_get p hp16;have g2:=hex_get q hq16;have x3:(ByteArray.mk #[48,49,50,51,52,53,54,55,56,57,97,98,99,100,101,102]).size=16:=rfl;have hp16z:(p:Int)<16:=by omega
 have hq16z:(q:Int)<16:=by omega
 rw[hp,hq];have H2:=hid (fun (w:World) (vo:Value) (bs:List UInt8) (c:UInt8) (h:WAt B w vi vb nx ind so op (.pointer (some ⟨B,6,none⟩)) vo bs) (hl:bs.length≤100000000000)=>writeByte_any B w vi vb nx ind so op _ vo bs c h hl);obtain⟨P1,hP1⟩:∃P,hexB p=P:=⟨_,rfl⟩;obtain⟨P2,hP2⟩:∃P,hexB q=P:=⟨_,rfl⟩;rw[hP1]at g1 ⊢;rw[hP2]at g2 ⊢;clear h hp hq hP1 hP2;go_enter Tryz.func127,Tryz.ntmps127
 go_wp2_with fail
 refine Calls.mono H1.out ?_;rintro e w1 ⟨rfl,vo1,hW1,hF1,hN1⟩;have K1:=hid (And.intro hF1 hN1);have HB1:=hid (fun k=>H2.out (w1.drewN k) vo1 _ P1 ⟨hW1.blk,hW1.adr,hW1.row⟩ (by simp;omega));clear hW1 hF1 hN1
 go_wp2_with fail
 go_region_with (go_at_call 44;refine Calls.mono (HB1.out _) ?_;rintro e w2 ⟨rfl,hP⟩;have KP:=hid hP;clear hP)
 all_goals
  have KQ:=hid (WPost.trans (K1.out.1.drewN _) K1.out.2 KP.out);clear KP K1 HB1;obtain⟨vo2,hW2,hF2,hN2⟩:=KQ.out;have K2:=hid (And.intro hF2 hN2);have HB2:=hid (fun k=>H2.out (w2.drewN k) vo2 _ P2 ⟨hW2.blk,hW2.adr,hW2.row⟩ (by simp;omega));clear hW2 hF2 hN2 KQ
  go_wp2_with fail
  go_region_with (go_at_call 44;refine Calls.mono (HB2.out _) ?_;rintro e w3 ⟨rfl,hP⟩;have KR:=hid hP;clear hP)
  all_goals
   have KS:=hid (WPost.trans (K2.out.1.drewN _) K2.out.2 KR.out);clear KR K2 HB2;go_wp2;go_end0;refine⟨rfl,?_⟩;have:=KS.out;simpa using this
def quoteR (r:Nat):List UInt8:=
 if r=34∨r=92 then 92::encR r else if r=8 then[92,98]else if r=9 then[92,116]else if r=10 then[92,110]
 else if r=12 then[92,102]else if r=13 then[92,114]else if r<32 then[92,117,48,48,hexB (r/16),hexB (r % 16)]else encR r
theorem writeCharacter_any (B:Nat) (w:World) (vi vb:Value) (nx ind:Int) (so:Bool) (op:Nat) (ad vo:Value) (bs:List UInt8) (r:Nat) (h:WAt B w vi vb nx ind so op ad vo bs) (hl:bs.length≤99999990000) (hr:r<55296∨(57344≤r∧r≤1114111)):
 Calls Tryz.prog 72 #[.pointer (some ⟨B,0,none⟩),.int .i32 (r:Int)] w fun e w'=>e=.returned (.tuple #[])∧WPost B w vi vb nx ind so op vo (bs++quoteR r) w':=by
 unfold quoteR;by_cases h34:r=34∨r=92
 ·rw[if_pos h34]
  by_cases h3:r=34
  ·have e1:((r:Int)==34)=true:=by simp[h3]
   clear h3;have H1:=hid (show Calls Tryz.prog 44 #[.pointer (some ⟨B,6,none⟩),.int .u8 92] w _ from writeByte_any B w vi vb nx ind so op ad vo bs 92 h (by omega));have H2:=hid (fun (w:World) (vo:Value) (h:WAt B w vi vb nx ind so op (.pointer (some ⟨B,6,none⟩)) vo (bs++[92]))=>writeRune_any B w vi vb nx ind so op _ vo (bs++[92]) r h (by simp;omega) hr);obtain⟨E,hE⟩:∃E,encR r=E:=⟨_,rfl⟩;rw[hE]at H2 ⊢;clear h hr hE h34;go_enter Tryz.func72,Tryz.ntmps72
   go_wp2_with fail
   refine Calls.mono H1.out ?_;rintro e w1 ⟨rfl,vo1,hW1,hF1,hN1⟩;have K1:=hid (And.intro hF1 hN1);have HB1:=hid (H2.out w1 vo1 hW1);clear hW1 hF1 hN1
   go_wp2_with fail
   refine Calls.mono HB1.out ?_;rintro e w2 ⟨⟨k9,rfl⟩,hP⟩;have KP:=hid (WPost.trans K1.out.1 K1.out.2 hP);clear hP;go_wp2;go_end0;exact⟨rfl,by simpa using KP.out⟩
  ·have e1:((r:Int)==34)=false:=beq_eq_false_iff_ne.2 (by omega)
   have e2:((r:Int)==92)=true:=by simp;omega
   clear h3;have H1:=hid (show Calls Tryz.prog 44 #[.pointer (some ⟨B,6,none⟩),.int .u8 92] w _ from writeByte_any B w vi vb nx ind so op ad vo bs 92 h (by omega));have H2:=hid (fun (w:World) (vo:Value) (h:WAt B w vi vb nx ind so op (.pointer (some ⟨B,6,none⟩)) vo (bs++[92]))=>writeRune_any B w vi vb nx ind so op _ vo (bs++[92]) r h (by simp;omega) hr);obtain⟨E,hE⟩:∃E,encR r=E:=⟨_,rfl⟩;rw[hE]at H2 ⊢;clear h hr hE h34;go_enter Tryz.func72,Tryz.ntmps72
   go_wp2_with fail
   refine Calls.mono H1.out ?_;rintro e w1 ⟨rfl,vo1,hW1,hF1,hN1⟩;have K1:=hid (And.intro hF1 hN1);have HB1:=hid (H2.out w1 vo1 hW1);clear hW1 hF1 hN1
   go_wp2_with fail
   refine Calls.mono HB1.out ?_;rintro e w2 ⟨⟨k9,rfl⟩,hP⟩;have KP:=hid (WPost.trans K1.out.1 K1.out.2 hP);clear hP;go_wp2;go_end0;exact⟨rfl,by simpa using KP.out⟩
 ·rw[if_neg h34]
  have e1:((r:Int)==34)=false:=beq_eq_false_iff_ne.2 (by omega);have e2:((r:Int)==92)=false:=beq_eq_false_iff_ne.2 (by omega);clear h34;by_cases h8:r=8
  ·rw[if_pos h8]
   have e8:((r:Int)==8)=true:=by simp[h8]
   have H1:=hid (writeString_any B w vi vb nx ind so op ad vo bs [92,98] h (by simp;omega));clear h hr h8;go_enter Tryz.func72,Tryz.ntmps72
   go_wp2_with fail
   refine Calls.mono H1.out ?_;rintro e w1 ⟨rfl,hP⟩;have KP:=hid hP;clear hP;go_wp2;go_end0;exact⟨rfl,KP.out⟩
  rw[if_neg h8];have e8:((r:Int)==8)=false:=beq_eq_false_iff_ne.2 (by omega);clear h8;by_cases h9:r=9
  ·rw[if_pos h9]
   have e9:((r:Int)==9)=true:=by simp[h9]
   have H1:=hid (writeString_any B w vi vb nx ind so op ad vo bs [92,116] h (by simp;omega));clear h hr h9;go_enter Tryz.func72,Tryz.ntmps72
   go_wp2_with fail
   refine Calls.mono H1.out ?_;rintro e w1 ⟨rfl,hP⟩;have KP:=hid hP;clear hP;go_wp2;go_end0;exact⟨rfl,KP.out⟩
  rw[if_neg h9];have e9:((r:Int)==9)=false:=beq_eq_false_iff_ne.2 (by omega);clear h9;by_cases h10:r=10
  ·rw[if_pos h10]
   have e10:((r:Int)==10)=true:=by simp[h10]
   have H1:=hid (writeString_any B w vi vb nx ind so op ad vo bs [92,110] h (by simp;omega));clear h hr h10;go_enter Tryz.func72,Tryz.ntmps72
   go_wp2_with fail
   refine Calls.mono H1.out ?_;rintro e w1 ⟨rfl,hP⟩;have KP:=hid hP;clear hP;go_wp2;go_end0;exact⟨rfl,KP.out⟩
  rw[if_neg h10];have e10:((r:Int)==10)=false:=beq_eq_false_iff_ne.2 (by omega);clear h10;by_cases h12:r=12
  ·rw[if_pos h12]
   have e12:((r:Int)==12)=true:=by simp[h12]
   have H1:=hid (writeString_any B w vi vb nx ind so op ad vo bs [92,102] h (by simp;omega));clear h hr h12;go_enter Tryz.func72,Tryz.ntmps72
   go_wp2_with fail
   refine Calls.mono H1.out ?_;rintro e w1 ⟨rfl,hP⟩;have KP:=hid hP;clear hP;go_wp2;go_end0;exact⟨rfl,KP.out⟩
  rw[if_neg h12];have e12:((r:Int)==12)=false:=beq_eq_false_iff_ne.2 (by omega);clear h12;by_cases h13:r=13
  ·rw[if_pos h13]
   have e13:((r:Int)==13)=true:=by simp[h13]
   have H1:=hid (writeString_any B w vi vb nx ind so op ad vo bs [92,114] h (by simp;omega));clear h hr h13;go_enter Tryz.func72,Tryz.ntmps72
   go_wp2_with fail
   refine Calls.mono H1.out ?_;rintro e w1 ⟨rfl,hP⟩;have KP:=hid hP;clear hP;go_wp2;go_end0;exact⟨rfl,KP.out⟩
  rw[if_neg h13];have e13:((r:Int)==13)=false:=beq_eq_false_iff_ne.2 (by omega);clear h13;by_cases h32:r<32
  ·rw[if_pos h32]
   have e32:decide ((r:Int)<32)=true:=decide_eq_true (by omega);have H1:=hid (writeCode_any B w vi vb nx ind so op ad vo bs r h (by omega) h32);generalize [92,117,48,48,hexB (r/16),hexB (r % 16)]=L6 at*;clear h hr h32;go_enter Tryz.func72,Tryz.ntmps72
   go_wp2_with fail
   refine Calls.mono H1.out ?_;rintro e w1 ⟨rfl,hP⟩;have KP:=hid hP;clear hP;go_wp2;go_end0;exact⟨rfl,KP.out⟩
  ·rw[if_neg h32]
   have e32:decide ((r:Int)<32)=false:=decide_eq_false (by omega);have H1:=hid (writeRune_any B w vi vb nx ind so op ad vo bs r h (by omega) hr);obtain⟨E,hE⟩:∃E,encR r=E:=⟨_,rfl⟩;rw[hE]at H1 ⊢;clear h hr h32 hE;go_enter Tryz.func72,Tryz.ntmps72
   go_wp2_with fail
   refine Calls.mono H1.out ?_;rintro e w1 ⟨⟨k9,rfl⟩,hP⟩;have KP:=hid hP;clear hP;go_wp2;go_end0;exact⟨rfl,KP.out⟩
theorem get_drop {l r:List UInt8} {k:Nat} {j:Nat} {x:UInt8} (h:l.drop k=r) (hx:r[j]? =some x):k+j<l.length∧(ofL l).get! (k+j)=x:=by
 rw[←h,List.getElem?_drop]at hx;obtain⟨h1,h2⟩:=List.getElem?_eq_some_iff.1 hx;refine⟨h1,?_⟩
 show(l.toArray)[k+j]! =x
 rw[getElem!_pos l.toArray (k+j) (by simpa using h1)];simpa using h2
theorem u8_eq {a:UInt8} {n:Nat} (h:a.toNat=n):UInt8.ofNat n=a:=by rw[←h];simp
theorem decode_ascii' (l:List UInt8) (k:Nat) (c:UInt8) (r:List UInt8) (h:l.drop k=c::r) (hc:c.toNat<128):Utf8.decode (ofL l) k=(c.toNat,1)∧encR c.toNat=[c]:=by
 obtain⟨h1,h2⟩:=get_drop (j:=0) h rfl;rw[Nat.add_zero]at h2;refine⟨?_,?_⟩
 ·unfold Utf8.decode
  simp only[Nat.add_zero,h2];rw[if_pos hc]
 ·unfold encR
  rw[if_pos hc,u8_eq rfl]
theorem decode_2 (l:List UInt8) (k:Nat) (c d:UInt8) (r:List UInt8) (h:l.drop k=c::d::r) (hc:192≤c.toNat∧c.toNat<224) (hd:128≤d.toNat∧d.toNat≤191) (hm:128≤64*(c.toNat-192)+d.toNat-128):
 Utf8.decode (ofL l) k=(64*(c.toNat-192)+d.toNat-128,2)∧encR (64*(c.toNat-192)+d.toNat-128)=[c,d]:=by
 obtain⟨_,g0⟩:=get_drop (j:=0) h rfl;obtain⟨l1,g1⟩:=get_drop (j:=1) h rfl;rw[Nat.add_zero]at g0;have hs:=ofL_size l;refine⟨?_,?_⟩
 ·unfold Utf8.decode
  simp only[Nat.add_zero,g0,g1,hs];rw[if_neg (by omega),if_pos (by simp[l1];omega),if_pos (by omega)];exact Prod.ext (by simp only;omega) rfl
 ·unfold encR
  rw[if_neg (by omega),if_pos (by omega),u8_eq (a:=c) (by omega),u8_eq (a:=d) (by omega)]
theorem decode_3 (l:List UInt8) (k:Nat) (c d e:UInt8) (r:List UInt8) (h:l.drop k=c::d::e::r) (hc:224≤c.toNat∧c.toNat<240) (hd:128≤d.toNat∧d.toNat≤191) (he:128≤e.toNat∧e.toNat≤191) (n:Nat) (hn:n=4096*(c.toNat-224)+64*(d.toNat-128)+(e.toNat-128)) (hm:2048≤n) (hv:n<55296∨(57344≤n∧n≤1114111)):
 Utf8.decode (ofL l) k=(n,3)∧encR n=[c,d,e]:=by
 obtain⟨_,g0⟩:=get_drop (j:=0) h rfl;obtain⟨l1,g1⟩:=get_drop (j:=1) h rfl;obtain⟨l2,g2⟩:=get_drop (j:=2) h rfl;rw[Nat.add_zero]at g0;have hs:=ofL_size l;refine⟨?_,?_⟩
 ·unfold Utf8.decode
  simp only[Nat.add_zero,g0,g1,g2,hs];have e1:c.toNat % 16*4096+d.toNat % 64*64+e.toNat % 64=n:=by omega
  have hva:Utf8.valid (n:Int)=true:=by unfold Utf8.valid;simp;omega
  rw[if_neg (by omega),if_neg (by simp;omega),if_pos (by simp[l1,l2];omega),e1,if_pos (by rw[hva];simp;omega)]
 ·unfold encR
  rw[if_neg (by omega),if_neg (by omega),if_pos (by omega),u8_eq (a:=c) (by omega),u8_eq (a:=d) (by omega),u8_eq (a:=e) (by omega)]
theorem decode_4 (l:List UInt8) (k:Nat) (c d e g:UInt8) (r:List UInt8) (h:l.drop k=c::d::e::g::r) (hc:240≤c.toNat∧c.toNat<248) (hd:128≤d.toNat∧d.toNat≤191) (he:128≤e.toNat∧e.toNat≤191) (hg:128≤g.toNat∧g.toNat≤191) (n:Nat) (hn:n=262144*(c.toNat-240)+4096*(d.toNat-128)+64*(e.toNat-128)+(g.toNat-128)) (hm:65536≤n) (hv:n≤1114111):
 Utf8.decode (ofL l) k=(n,4)∧encR n=[c,d,e,g]:=by
 obtain⟨_,g0⟩:=get_drop (j:=0) h rfl;obtain⟨l1,g1⟩:=get_drop (j:=1) h rfl;obtain⟨l2,g2⟩:=get_drop (j:=2) h rfl;obtain⟨l3,g3⟩:=get_drop (j:=3) h rfl;rw[Nat.add_zero]at g0;have hs:=ofL_size l;refine⟨?_,?_⟩
 ·unfold Utf8.decode
  simp only[Nat.add_zero,g0,g1,g2,g3,hs];have e1:c.toNat % 8*262144+d.toNat % 64*4096+e.toNat % 64*64+g.toNat % 64=n:=by omega
  have hva:Utf8.valid (n:Int)=true:=by unfold Utf8.valid;simp;omega
  rw[if_neg (by omega),if_neg (by simp;omega),if_neg (by simp;omega),if_pos (by simp[l1,l2,l3];omega),e1,if_pos (by rw[hva];simp;omega)]
 ·unfold encR
  rw[if_neg (by omega),if_neg (by omega),if_neg (by omega),u8_eq (a:=c) (by omega),u8_eq (a:=d) (by omega),u8_eq (a:=e) (by omega),u8_eq (a:=g) (by omega)]
structure ChAt (l:List UInt8) (k n x:Nat):Prop where
 n1:1≤n
 le:k+n≤l.length
 de:Utf8.decode (ofL l) k=(x,n)
 en:encR x=(l.drop k).take n
 va:x<55296∨(57344≤x∧x≤1114111)
 hi:128≤x→∀c,c∈(l.drop k).take n→128≤c.toNat
theorem beg2 {c d:UInt8} (hc:192≤c.toNat∧c.toNat<224) (h:beginsV [c,d]≠0):(128≤d.toNat∧d.toNat≤191)∧128≤64*(c.toNat-192)+d.toNat-128:=by
 have h:begN c.toNat [d]≠0:=h;rw[begN2 hc]at h;simp only[begGo]at h;split at h
 ·exact absurd rfl h
 ·have h:begOk 2 (64*(c.toNat-192)+d.toNat-128) (64*(c.toNat-192)+d.toNat-128)≠0:=h
  by_cases hb:(64*(c.toNat-192)+d.toNat-128)<begLeast 2∨1114111<(64*(c.toNat-192)+d.toNat-128)∨(55296≤(64*(c.toNat-192)+d.toNat-128)∧(64*(c.toNat-192)+d.toNat-128)≤57343)
  ·exact absurd (begOk_no hb) h
  ·rw[least2]at hb
   omega
theorem beg3 {c d e:UInt8} (hc:224≤c.toNat∧c.toNat<240) (h:beginsV [c,d,e]≠0):(128≤d.toNat∧d.toNat≤191)∧(128≤e.toNat∧e.toNat≤191)∧2048≤4096*(c.toNat-224)+64*(d.toNat-128)+(e.toNat-128)∧(4096*(c.toNat-224)+64*(d.toNat-128)+(e.toNat-128)<55296∨(57344≤4096*(c.toNat-224)+64*(d.toNat-128)+(e.toNat-128)∧4096*(c.toNat-224)+64*(d.toNat-128)+(e.toNat-128)≤1114111)):=by
 have h:begN c.toNat [d,e]≠0:=h;rw[begN3 hc]at h;simp only[begGo]at h;split at h
 ·exact absurd rfl h
 ·split at h
  ·exact absurd rfl h
  ·have h:begOk 3 (64*(64*(c.toNat-224)+d.toNat-128)+e.toNat-128) (64*(64*(c.toNat-224)+d.toNat-128)+e.toNat-128)≠0:=h
   by_cases hb:(64*(64*(c.toNat-224)+d.toNat-128)+e.toNat-128)<begLeast 3∨1114111<(64*(64*(c.toNat-224)+d.toNat-128)+e.toNat-128)∨(55296≤(64*(64*(c.toNat-224)+d.toNat-128)+e.toNat-128)∧(64*(64*(c.toNat-224)+d.toNat-128)+e.toNat-128)≤57343)
   ·exact absurd (begOk_no hb) h
   ·rw[least3]at hb
    omega
theorem beg4 {c d e g:UInt8} (hc:240≤c.toNat∧c.toNat<248) (h:beginsV [c,d,e,g]≠0):(128≤d.toNat∧d.toNat≤191)∧(128≤e.toNat∧e.toNat≤191)∧(128≤g.toNat∧g.toNat≤191)∧65536≤262144*(c.toNat-240)+4096*(d.toNat-128)+64*(e.toNat-128)+(g.toNat-128)∧262144*(c.toNat-240)+4096*(d.toNat-128)+64*(e.toNat-128)+(g.toNat-128)≤1114111:=by
 have h:begN c.toNat [d,e,g]≠0:=h;rw[begN4 hc]at h;simp only[begGo]at h;split at h
 ·exact absurd rfl h
 ·split at h
  ·exact absurd rfl h
  ·split at h
   ·exact absurd rfl h
   ·have h:begOk 4 (64*(64*(64*(c.toNat-240)+d.toNat-128)+e.toNat-128)+g.toNat-128) (64*(64*(64*(c.toNat-240)+d.toNat-128)+e.toNat-128)+g.toNat-128)≠0:=h
    by_cases hb:(64*(64*(64*(c.toNat-240)+d.toNat-128)+e.toNat-128)+g.toNat-128)<begLeast 4∨1114111<(64*(64*(64*(c.toNat-240)+d.toNat-128)+e.toNat-128)+g.toNat-128)∨(55296≤(64*(64*(64*(c.toNat-240)+d.toNat-128)+e.toNat-128)+g.toNat-128)∧(64*(64*(64*(c.toNat-240)+d.toNat-128)+e.toNat-128)+g.toNat-128)≤57343)
    ·exact absurd (begOk_no hb) h
    ·rw[least4]at hb
     omega
theorem u_char (l:List UInt8) (k f:Nat) (c:UInt8) (r:List UInt8) (hl:l.drop k=c::r) (hu:uGo (f+1) (c::r)=true):∃n x,ChAt l k n x∧uGo f (l.drop (k+n))=true:=by
 have hlen:l.length=k+(r.length+1):=by
  have:=congrArg List.length hl;simp at this;omega
 rw[uGo]at hu;by_cases hc:c.toNat<128
 ·rw[if_pos hc]at hu
  obtain⟨h1,h2⟩:=decode_ascii' l k c r hl hc;refine⟨1,c.toNat,⟨Nat.le_refl _,by omega,h1,by rw[hl,h2];rfl,.inl (by omega),fun h=>absurd h (by omega)⟩,?_⟩;rw[←List.drop_drop,hl];exact hu
 ·rw[if_neg hc]at hu
  by_cases h0:beginsV [c]=0∨(c::r).length<beginsV [c]
  ·rw[if_pos h0]at hu;cases hu
  ·rw[if_neg h0]at hu
   by_cases h2:beginsV ((c::r).take (beginsV [c]))=0
   ·rw[if_pos h2]at hu;cases hu
   ·rw[if_neg h2]at hu
    have hsz:beginsV [c]=begSize c.toNat:=by
     rcases begins_or c []with h|h
     ·exact absurd (.inl h) h0
     ·exact h
    rw[hsz]at h0 h2 hu
    have hsz2:beginsV ((c::r).take (begSize c.toNat))=begSize c.toNat:=by
     have h3:0<begSize c.toNat:=by omega
     obtain⟨m,hm⟩:∃m,begSize c.toNat=m+1:=⟨begSize c.toNat-1,by omega⟩;rw[hm]at h2 ⊢;rw[List.take_succ_cons]at h2 ⊢;rcases begins_or c (r.take m)with h|h
     ·exact absurd h h2
     ·rw[h];exact hm
    rw[hsz2]at hu;have hd:(c::r).drop (begSize c.toNat)=l.drop (k+begSize c.toNat):=by rw[←hl,List.drop_drop]
    rw[hd]at hu;simp only[List.length_cons]at h0
    have h3:(192≤c.toNat∧c.toNat<224)∨(224≤c.toNat∧c.toNat<240)∨(240≤c.toNat∧c.toNat<248):=by
     unfold begSize at h0;by_cases a1:192≤c.toNat∧c.toNat<224
     ·exact .inl a1
     ·by_cases a2:224≤c.toNat∧c.toNat<240
      ·exact .inr (.inl a2)
      ·by_cases a3:240≤c.toNat∧c.toNat<248
       ·exact .inr (.inr a3)
       ·rw[if_neg a1,if_neg a2,if_neg a3]at h0
        simp at h0
    rcases h3 with a|a|a
    ·have hs:begSize c.toNat=2:=(size2 a).1
     rw[hs]at hu h2 h0
     match r,hl,h2,h0 with
     |[],_,_,h0=>simp at h0
     |d::r,hl,h2,_=>
      obtain⟨b1,b2⟩:=beg2 (d:=d) a h2;obtain⟨q1,q2⟩:=decode_2 l k c d r hl a b1 b2;refine⟨2,_,⟨by omega,by simp at hlen;omega,q1,by rw[hl,q2];rfl,.inl (by omega),fun _ x hx=>?_⟩,hu⟩;rw[hl]at hx;simp at hx;rcases hx with rfl|rfl<;>omega
    ·have hs:begSize c.toNat=3:=(size3 a).1
     rw[hs]at hu h2 h0
     match r,hl,h2,h0 with
     |[],_,_,h0=>simp at h0
     |[_],_,_,h0=>simp at h0
     |d::e::r,hl,h2,_=>
      obtain⟨b1,b2,b3,b4⟩:=beg3 (d:=d) (e:=e) a h2;obtain⟨q1,q2⟩:=decode_3 l k c d e r hl a b1 b2 _ rfl b3 b4;refine⟨3,_,⟨by omega,by simp at hlen;omega,q1,by rw[hl,q2];rfl,b4,fun _ x hx=>?_⟩,hu⟩;rw[hl]at hx;simp at hx;rcases hx with rfl|rfl|rfl<;>omega
    ·have hs:begSize c.toNat=4:=(size4 a).1
     rw[hs]at hu h2 h0
     match r,hl,h2,h0 with
     |[],_,_,h0=>simp at h0
     |[_],_,_,h0=>simp at h0
     |[_,_],_,_,h0=>simp at h0
     |d::e::g::r,hl,h2,_=>
      obtain⟨b1,b2,b3,b4,b5⟩:=beg4 (d:=d) (e:=e) (g:=g) a h2;obtain⟨q1,q2⟩:=decode_4 l k c d e g r hl a b1 b2 b3 _ rfl b4 b5;refine⟨4,_,⟨by omega,by simp at hlen;omega,q1,by rw[hl,q2];rfl,.inr ⟨by omega,b5⟩,fun _ x hx=>?_⟩,hu⟩;rw[hl]at hx;simp at hx;rcases hx with rfl|rfl|rfl|rfl<;>omega
theorem quote_high (s:List UInt8) (h:∀c,c∈s→128≤c.toNat):s.flatMap quoteB=s:=by
 induction s with
 |nil=>rfl
 |cons c s ih=>
  have hc:=h c (by simp);rw[List.flatMap_cons,ih (fun x hx=>h x (by simp[hx]))];unfold quoteB;rw[if_neg (by omega),if_neg (by omega),if_neg (by omega),if_neg (by omega),if_neg (by omega),if_neg (by omega),if_neg (by omega)];rfl
theorem ChAt.quote {l:List UInt8} {k n x:Nat} (h:ChAt l k n x):quoteR x=((l.drop k).take n).flatMap quoteB:=by
 by_cases hx:128≤x
 ·rw[quote_high _ (h.hi hx),←h.en]
  unfold quoteR;rw[if_neg (by omega),if_neg (by omega),if_neg (by omega),if_neg (by omega),if_neg (by omega),if_neg (by omega),if_neg (by omega)]
 ·have he:encR x=[UInt8.ofNat x]:=by unfold encR;rw[if_pos (by omega)]
  rw[←h.en,he,List.flatMap_singleton];unfold quoteR quoteB;rw[he,UInt8.toNat_ofNat_of_lt' (show x<256 by omega)]
end Go.Proofs.YtmkkibaacclhnaaGreatDoor
