/-
  Part Bn.
-/
import Derived.Test.YtmkkibaacclhnaaGreatDoorSg
import Derived.Test.YtmkkibaacclhnaaGreatDoorXcd
import Derived.Test.YtmkkibaacclhnaaGreatDoorBmy
import Derived.Deep.DeepCutAuto
import Derived.Deep.CutBlock
namespace Go.Proofs.YtmkkibaacclhnaaGreatDoor
open Go.RowKit
set_option maxRecDepth 100000
set_option maxHeartbeats 40000000
theorem SC.growI {B:Nat} {w0 W n:World} {l p:LU8} {inn d:Nat} {o j:Value} {its:List It} {e:Nat} {en q:Bool} {w:Obj} (x:It) (h:SC B w0 W l p inn d o its e en q) (m:n.ownsRow 0 29 4 j (its.length+1) (B3e its++A1f x)) (v:(W.alloc w).grownBy n o.ownBlock)
 (z:∀g,j.ownBlock=some g->o.ownBlock=some g\/W.heap.size+1<=g):
 n.heap[B]? =some (.cells (A0e l (l.length-p.length) inn d o e en q) 120 (0,0))/\SC B w0 (n.setCell ⟨B,4,none⟩ j) l p inn d j (its++[x]) e en q:=by
 obtain⟨a,b,c,f,g,k⟩:=h;have r:=lt_of_block a;have hro:=A8y b a (show 120≠29 by decide)
 have s:n.heap[B]? =some (.cells (A0e l (l.length-p.length) inn d o e en q) 120 (0,0)):=by
  rw[v.block B (by simp;omega) (λe=>hro e.symm),Below.heap_alloc _ _ _ r];exact a
 have y:=f.size;refine⟨s,heap_setCell_same n B 4 _ 120 j s,?_,c,((f.alloc w).grown v (λi t=>.inr (k i t))).setCell (p:=⟨B,4,none⟩) (.inr g) _,g,?_⟩
 ·have:=A0q m (a:=⟨B,4,none⟩) (A8y m s (by decide)) j
  rw[B0r,List.length_append];exact this
 ·intro i t
  rcases z i t with u|u
  ·exact k i u
  ·omega
def G2z (k:Nat):RO Unit->RV
 |.ok _ q=>.ok 0 [⟨k,0,0,[]⟩] q
 |.wrong n q=>.wrong n q
 |.ended=>.ended false
theorem F8y (k:Nat) (w r:LU8):A8n k w r=G2z k (A3a w r):=by
 unfold A8n;cases A3a w r<;>rfl
def B1i (B:Nat) (w0:World) (l:LU8) (inn d:Nat) (its:List It) (U:RV) (x:Ending) (w':World):Prop:=
 match U with
 |.ok _ new q=>x=.returned (.bool true)/\∃vi,SC B w0 w' l q inn d vi (its++new) 0 false false
 |.wrong n q=>x=.returned (.bool false)/\∃vi more,SC B w0 w' l q inn d vi (its++more) n false false
 |.ended late=>x=.returned (.bool false)/\∃vi more,SC B w0 w' l [] inn d vi (its++more) 0 true late
theorem C7c (B:Nat) (w0 w:World) (l p b:LU8) (r inn d:Nat) (vi:Value) (its:List It) (hl:l.length<=100000000) (a3:b.length<=10) (a2:its.length<=100000000) (h:SC B w0 w l p inn d vi its 0 false false):
 Calls Tryz.prog 92 #[.pointer (some ⟨B,0,none⟩),.string (ofL b),.int .i64 (r:Int)] w (B1i B w0 l inn d its (A8n r b p)):=by
 have H:=hid h;obtain⟨i0,hi,T,W,X⟩:=info_parts Tryz.info29;have J:=h.oi;obtain⟨a,n,cap,rfl⟩:=A0h J;obtain rfl:=A1a J;have k4:=A0a h.blk (show(A0e l (l.length-p.length) inn d (.slice a its.length cap) 0 false false)[4]? =some (.slice a its.length cap)from rfl);have f4:=A0b (j:=4) h.blk;have S:=A0c l;have R:=A0c b;clear h;obtain⟨U,N⟩:∃U,A3a b p=U:=⟨_,rfl⟩;have D:=hid (show A8n r b p=G2z r U by rw[<-N];exact F8y r b p);have HU:=hid N;obtain⟨V,O⟩:∃V,A8n r b p=V:=⟨_,rfl⟩;rw[O];rw[O]at D;clear N O;go_enter Tryz.func92,Tryz.ntmps92
 go_wp2_with (first
  |(at_builtin;refine A0g _ rfl _ _ 22 rfl 29 i0 (.agg #[.int .i64 0,.int .i64 0,.int .u64 0,.string ⟨#[]⟩]) 4 40 Tryz.underlying22 hi T W X rfl (by decide) _ _ _ rfl (J.alloc _) ⟨w.heap.size,0,none⟩ 1 1 (A1f ⟨r,0,0,[]⟩) rfl rfl ?c1 ?c2 ?c3 ?c4 ?_)
  |fail)
 case c1=>exact A3p _ _ _ _ _ _
 case c2=>intro u hu;simp[A1f]at hu;rcases hu with rfl|rfl|rfl|rfl<;>rfl
 case c3=>unfold maxLen;omega
 case c4=>omega
 intro v' w1 f m s;obtain⟨E,I,g,rfl⟩:=A0h f;obtain⟨t,Z⟩:=H.growI ⟨r,0,0,[]⟩ f m s;have q4:=A0a t (show(A0e l (l.length-p.length) inn d (.slice a its.length cap) 0 false false)[4]? =some (.slice a its.length cap)from rfl);have p4:=A0b (j:=4) t;have HR:=hid Z;clear f m s t Z J k4 f4;go_wp2
 go_loopw [7] (λi wr=>∃(k:Nat) (p':LU8),k<=b.length/\i=.int .i64 k/\Hid (SC B w0 wr l p' inn d (.slice E I g) (its++[⟨r,0,0,[]⟩]) 0 false false)/\Hid (A3a (b.drop k) p'=U)) (λi _=>b.length-(intOf i).toNat)
 case atStart=>exact⟨0,p,by omega,rfl,HR,HU⟩
 case round=>
  clear q4 p4;obtain⟨k,p',hk,rfl,F,o⟩:=hrel;by_cases A:k<b.length
  ·have z:b.drop k=b[k]::b.drop (k+1):=List.drop_eq_getElem_cons A
   have a1:(ofL b)[k]'(by rw[R];exact A)=b[k]:=A1d b k _;rw[z]at o;generalize b[k]=y at*;clear z;cases p' with
   |nil=>
    rw[A3a]at o;have L:=hid (B0y B w0 _ l inn d _ _ 0 false false F.out)
    go_wp2_with fail
    refine Calls.mono L.out ?_;rintro x Y ⟨rfl,v⟩;have K:=hid v;clear v;go_wp2;go_ret;rw[D.out,<-o.out];exact⟨rfl,_,_,K.out⟩
   |cons c q=>
    rw[A3a]at o;have L:=hid (A7v B w0 _ l c q inn d _ _ 0 false false F.out)
    go_wp2_with fail
    refine Calls.mono L.out ?_;rintro x2 Y ⟨rfl,C⟩;have e:SC B w0 Y l (c::q) inn d (.slice E I g) (its++[⟨r,0,0,[]⟩]) 0 false false:=C▸F.drew;clear C;obtain⟨P,hg⟩:=A3i e.suf;have k0:=A0a e.blk (show(A0e l (l.length-(c::q).length) inn d (.slice E I g) 0 false false)[0]? =some (.string (ofL l))from rfl);have k1:=A0a e.blk (show(A0e l (l.length-(c::q).length) inn d (.slice E I g) 0 false false)[1]? =some (.int .i64 ((l.length-(c::q).length:Nat):Int))from rfl);have f1:=A0b (j:=1) e.blk;have a0:(ofL l)[l.length-(c::q).length]'(by rw[S];exact P)=c:=(A1d l _ _).trans hg;have Q:=hid (λn=>(e.drewN n).step);have M:=hid (λn=>A2m B w0 (Y.drewN n) l (c::q) inn d _ _ 0 3 false false (e.drewN n));generalize l.length-(c::q).length=ps at*;clear hg e;by_cases G:c=y
    ·subst G
     rw[if_neg (by simp)]at o;have hb:((c.toNat:Int)!=(c.toNat:Int))=false:=by simp
     go_wp2;go_quiet (fail);go_wp2;go_roundw
     case rel=>exact⟨k+1,q,by omega,by go_num,hid (Q.out _),o⟩
     case measure=>simp[intOf];omega
    ·rw[if_pos G]at o
     have hb:((c.toNat:Int)!=(y.toNat:Int))=true:=bne_iff_ne.2 (by have:=A0k G;omega);clear G;go_wp2;go_quiet (fail)
     go_wp2_with fail
     refine Calls.mono (M.out _) ?_;rintro x w3 ⟨rfl,v⟩;have K:=hid v;clear v;go_wp2;go_ret;rw[D.out,<-o.out];exact⟨rfl,_,_,K.out⟩
  ·obtain rfl:k=b.length:=by omega
   rw[List.drop_length,A3a]at o;go_wp2;go_ret;rw[D.out,<-o.out];exact⟨rfl,_,F.out⟩
def B1c (e:UInt8) (p:LU8):RO Bool:=match A0s p with
 |[]=>.ended
 |c::q=>if c=e then .ok true q else if c=44 then .ok false q else .wrong 3 (c::q)
def E0b (b:Bool):Value:=.tuple #[.bool b,.bool true]
def F9w:Value:=.tuple #[.bool false,.bool false]
theorem C1a (B:Nat) (w0 w:World) (l p:LU8) (en:UInt8) (inn d:Nat) (f:Value) (its:List It) (G:l.length<=100000000) (h:SC B w0 w l p inn d f its 0 false false):
 Calls Tryz.prog 144 #[.pointer (some ⟨B,0,none⟩),.int .u8 (en.toNat:Int)] w (D9w B w0 l inn d f its E0b F9w (B1c en p)):=by
 have i:=hid (A2n B w0 w l p inn d f its 0 false false G h);have A:=A0c l;clear h;unfold B1c;cases o:A0s p with
 |nil=>
  rw[o]at i;clear o;go_enter Tryz.func144,Tryz.ntmps144
  go_wp2_with fail
  refine Calls.mono i.out ?_;rintro x C ⟨rfl,e⟩;have r:=hid e;clear e;go_wp2;go_ret2;exact⟨rfl,r.out⟩
 |cons c q=>
  rw[o]at i;clear o;obtain⟨U,u⟩:∃U,(if c=en then RO.ok true q else if c=44 then .ok false q else .wrong 3 (c::q))=U:=⟨_,rfl⟩
  show Calls _ _ _ _ (D9w B w0 l inn d f its E0b F9w (if c=en then RO.ok true q else if c=44 then .ok false q else .wrong 3 (c::q)))
  rw[u];have s:=hid u;clear u;go_enter Tryz.func144,Tryz.ntmps144
  go_wp2_with fail
  refine Calls.mono i.out ?_;rintro x C ⟨rfl,e⟩;have a:SC B w0 C l (c::q) inn d f its 0 false false:=e;clear e;obtain⟨z,D⟩:=A3i a.suf;have I:=A0a a.blk (show(A0e l (l.length-(c::q).length) inn d f 0 false false)[0]? =some (.string (ofL l))from rfl);have J:=A0a a.blk (show(A0e l (l.length-(c::q).length) inn d f 0 false false)[1]? =some (.int .i64 ((l.length-(c::q).length:Nat):Int))from rfl);have H:=A0b (j:=1) a.blk;have F:(ofL l)[l.length-(c::q).length]'(by rw[A];exact z)=c:=(A1d l _ _).trans D;have m:=hid (λn=>(a.drewN n).step);have t:=hid (λn=>A2m B w0 (C.drewN n) l (c::q) inn d f its 0 3 false false (a.drewN n));generalize l.length-(c::q).length=ps at*;clear D a i;by_cases g:c=en
  ·subst g
   have k:=hid (show U=.ok true q by rw[<-s.out,if_pos rfl]);have E:((c.toNat:Int)!=(c.toNat:Int))=false:=by simp
   have v:((c.toNat:Int)==(c.toNat:Int))=true:=by simp
   go_wp2;go_quiet (fail);go_wp2;go_ret2;rw[k.out];exact⟨rfl,m.out _⟩
  ·have E:((c.toNat:Int)!=(en.toNat:Int))=true:=bne_iff_ne.2 (by have:=A0k g;omega)
   have v:((c.toNat:Int)==(en.toNat:Int))=false:=bqF (by have:=A0k g;omega);by_cases b:c=44
   ·have k:=hid (show U=.ok false q by rw[<-s.out,if_neg g,if_pos b])
    have y:((c.toNat:Int)!=44)=false:=by rw[b];rfl
    clear b g;go_wp2;go_quiet (fail);go_wp2;go_ret2;rw[k.out];exact⟨rfl,m.out _⟩
   ·have k:=hid (show U=.wrong 3 (c::q) by rw[<-s.out,if_neg g,if_neg b])
    have y:((c.toNat:Int)!=44)=true:=bne_iff_ne.2 (by have:=A0k b;simp at this;omega);clear b g;go_wp2;go_quiet (fail)
    go_wp2_with fail
    refine Calls.mono (t.out _) ?_;rintro x K ⟨rfl,e⟩;have r:=hid e;clear e;go_wp2;go_ret2;rw[k.out];exact⟨rfl,r.out⟩
theorem C1b (c:UInt8) (w:World):Calls Tryz.prog 216 #[.int .u8 (c.toNat:Int)] w λe w'=>e=.returned (.bool (isD c))/\w'=w:=by
 cases a:isD c
 ·have hr:=mt (A6h c).2 (by rw[a];simp)
  by_cases b:48<=c.toNat
  ·have d:57<c.toNat:=by omega
   clear hr a;generalize c.toNat=x at*;go_enter Tryz.func216,Tryz.ntmps216;go_wp2;go_ret;exact⟨by simp;omega,rfl⟩
  ·clear hr a
   generalize c.toNat=x at*;go_enter Tryz.func216,Tryz.ntmps216;go_wp2;go_ret;exact⟨rfl,rfl⟩
 ·obtain⟨b,d⟩:=(A6h c).1 a
  clear a;generalize c.toNat=x at*;go_enter Tryz.func216,Tryz.ntmps216;go_wp2;go_ret;exact⟨by simp;omega,rfl⟩
def D6g (l:LU8) (k:Nat):Nat:=k+((l.drop k).takeWhile isD).length
theorem E7h (l:LU8) (k:Nat) (h:l.length<=k\/∃h:k<l.length,isD l[k]=false):D6g l k=k:=by
 unfold D6g;rcases h with h|⟨h,a⟩
 ·rw[List.drop_of_length_le h];rfl
 ·rw[List.drop_eq_getElem_cons h,List.takeWhile_cons,a];rfl
theorem F3q (l:LU8) (k:Nat) (h:k<l.length) (a:isD l[k]=true):D6g l k=D6g l (k+1):=by
 unfold D6g;rw[List.drop_eq_getElem_cons h,List.takeWhile_cons,a,if_pos rfl,List.length_cons];omega
theorem B4a (l:LU8) (k:Nat) (w:World) (p:l.length<=100000000) (m:k<=l.length):
 Calls Tryz.prog 191 #[.string (ofL l),.int .i64 (k:Int)] w λe w'=>e=.returned (.int .i64 (D6g l k:Nat))/\w'=w:=by
 have h:=A0c l;go_enter Tryz.func191,Tryz.ntmps191;go_wp2
 go_loop [1] (λi=>∃j:Nat,j<=l.length/\i=.int .i64 j/\Hid (D6g l k=D6g l j)) (λi=>l.length-(intOf i).toNat)
 case atStart=>exact⟨k,m,rfl,hid rfl⟩
 case round=>
  obtain⟨j,o,rfl,d⟩:=hrel;by_cases b:j<l.length
  ·have n:(ofL l)[j]'(by rw[h];exact b)=l[j]:=A1d l j _
   cases g:isD l[j]
   ·have f:=hid (d.trans (E7h l j (.inr ⟨b,g⟩)))
    clear d;generalize l[j]=c at*;have a:isD c=false:=g
    go_wp2_with (go_at_call 216;refine(C1b c _).mono ?_;rintro e w' ⟨rfl,rfl⟩;rw[a])
    go_ret;exact⟨by rw[f.out];rfl,rfl⟩
   ·have f:=hid (d.trans (F3q l j b g))
    clear d;generalize l[j]=c at*;have a:isD c=true:=g
    go_wp2_with (go_at_call 216;refine(C1b c _).mono ?_;rintro e w' ⟨rfl,rfl⟩;rw[a])
    go_round
    case rel=>exact⟨j+1,by omega,by go_num,f⟩
    case measure=>simp[intOf];omega
  ·have f:=hid (d.trans (E7h l j (.inl (by omega))))
   clear d;go_wp2;go_ret;exact⟨by rw[f.out];rfl,rfl⟩
def B4b (neg:Bool) (wh fr:LU8) (en:Bool) (ex:LU8):Value:=
 .agg #[.bool neg,.string (ofL (wh++fr)),.int .i64 ((if en then-((min (num (dv ex)) 1099511627776:Nat):Int)else((min (num (dv ex)) 1099511627776:Nat):Int))-(fr.length:Int))]
def B8n (l:LU8) (e:Ending):Prop:=
 (∀neg wh fr en ex,A9i l=some (neg,wh,fr,en,ex)->e=.returned (.tuple #[B4b neg wh fr en ex,.bool true]))/\(A9i l=none->∃(m:Bool) (D:LU8) (X:Int),e=.returned (.tuple #[.agg #[.bool m,.string (ofL D),.int .i64 X],.bool false]))
theorem F3r (l:LU8):l.drop (if(A8x 45 l).2=true then 1 else 0)=(A8x 45 l).1:=by
 unfold A8x;split
 ·rw[if_pos rfl,List.drop_one]
 ·rfl
theorem C7d (l:LU8):NoD (l.dropWhile isD):=by
 induction l with
 |nil=>intro c h;cases h
 |cons x l ih=>
  intro c h;cases a:isD x
  ·rw[List.dropWhile_cons,if_neg (by rw[a];simp)]at h
   simp at h;subst h;exact a
  ·rw[List.dropWhile_cons,if_pos a]at h
   exact ih c h
theorem F8z (r:LU8):decide (r.head? =some 45)=(B3n r).2:=by
 unfold B3n;by_cases b:r.head? =some 43
 ·obtain⟨c,rfl⟩:∃c,r=43::c:=by
   cases r with
   |nil=>cases b
   |cons x r=>simp at b;subst b;exact⟨r,rfl⟩
  rw[A4j];rfl
 ·rw[A4c b]
  by_cases a:r.head? =some 45
  ·obtain⟨c,rfl⟩:∃c,r=45::c:=by
    cases r with
    |nil=>cases a
    |cons x r=>simp at a;subst a;exact⟨r,rfl⟩
   rw[A4j];rfl
  ·rw[A4c a,dcF a];rfl
theorem E7i {r:LU8} (h:r.head? =some 45\/r.head? =some 43):r.drop 1=(B3n r).1:=by
 cases r with
 |nil=>simp at h
 |cons x r=>
  simp at h;rcases h with rfl|rfl
  ·rw[B3n,A4c (by simp),A4j];rfl
  ·rw[B3n,A4j];rfl
theorem E7j {r:LU8} (h:¬(r.head? =some 45\/r.head? =some 43)):(B3n r).1=r:=by
 rw[B3n,A4c (λh1=>h (.inr h1)),A4c (λh1=>h (.inl h1))];rfl
def F3s (w:World) (m:Bool) (D:LU8) (X:Int):World:=(w.alloc (.cells #[.bool false,.string ⟨#[]⟩,.int .i64 0] 194)).alloc (.cells #[.bool m,.string (ofL D),.int .i64 X] 194)
def F3t:Nat->Code->Code
 |0,c=>c
 |n+1,.seq _ b=>F3t n b
 |_+1,c=>c
noncomputable def G3a:Code:=F3t 8 (Tryz.f148.body.getD .skip)
def G3b:Code->Code
 |.seq (.seq _ (.cond _ a _)) _=>a
 |c=>c
noncomputable def G4q:Code:=F3t 5 (G3b G3a)
noncomputable def G4r:Code:=F3t 9 (Tryz.f148.body.getD .skip)
theorem F3u (l G fr ex s:LU8) (k:Nat) (m en:Bool) (w wc:World) (K:Act->World->Prop) (u1 u3 u8 u9 u10 u11 u12 u13 u14 u15 u16 u17 u18 u19 u20 u21 u22 u23 u24 u25 u26 u27 u28 u29 u30 u31 u32 u33 u34 u35 u36 u37 u38 u39 u40 u41 u42 u43 u44 u45 u46 u47 u48 u49 u50 u51 u52 u53 u54 u55 u56 u57 u58 u59 u60 u61 u62 u63 u64 u65 u66 u67 u68 u69 u70 u71 u72 u73 u74 u75 u76 u77 u78 u79 u80 u81 u82 u83 u84 u85 u86 u87 u88 u89 u90 u91 u92 u93 u94 u95 u96 u97 u98 u99 u100 u101 u102 u103 u104 u105 u106 u107 u108 u109 u110 u111 u112 u113 u114 u115 u116 u117 u118 u119 u120 u121 u122 u123 u124 u125 u126 u127 u128 u129 u130 u131 u132 u133 u134 u135 u136 u137 u138 u139 u140 u141 u142 u143 u144 u145 u146 u147 u148 u149 u150 u151 u152 u153 u154 u155:Value)
 (P:∀a w',Code.wp Tryz.prog G4r (bodyPost Tryz.prog Tryz.f148 (λe w'=>B8n l e/\Fr (λ_=>False) w w')) a w'->K a w')
 (hl:l.length<=4000000) (U:fr.length<=l.length) (Z:0<ex.length) (r:k+(ex.length+s.length)=l.length) (F:A4h ex)
 (E:Hid (∀j (W:j<ex.length),∃h:k+j<l.length,(ofL l)[k+j]'(by rw[A0c];exact h)=ex[j])) (o:Hid (A9i l=C1k m G fr en ex s))
 (c:Hid (wc.heap[w.heap.size]? =some (.cells #[.bool false,.string ⟨#[]⟩,.int .i64 0] 194 (0,0)))) (g:Hid (wc.heap[w.heap.size+1]? =some (.cells #[.bool m,.string (ofL (G++fr)),.int .i64 (-(fr.length:Int))] 194 (0,0)))) (H:Hid (Fr (λ_=>False) w wc)):
 Code.wp Tryz.prog G4q (Exit.then K (bodyPost Tryz.prog Tryz.f148 (λe w'=>B8n l e/\Fr (λ_=>False) w w'))) ⟨List.toArray ((Value.string (ofL l))::u1::(Value.pointer (some ⟨w.heap.size,0,none⟩))::u3::(Value.pointer (some ⟨w.heap.size+1,0,none⟩))::(Value.int .i64 ((k:Nat):Int))::(Value.int .i64 ((k:Int)+(ex.length:Int)))::(Value.bool en)::u8::u9::u10::u11::u12::u13::u14::u15::u16::u17::u18::u19::u20::u21::u22::u23::u24::u25::u26::u27::u28::u29::u30::u31::u32::u33::u34::u35::u36::u37::u38::u39::u40::u41::u42::u43::u44::u45::u46::u47::u48::u49::u50::u51::u52::u53::u54::u55::u56::u57::u58::u59::u60::u61::u62::u63::u64::u65::u66::u67::u68::u69::u70::u71::u72::u73::u74::u75::u76::u77::u78::u79::u80::u81::u82::u83::u84::u85::u86::u87::u88::u89::u90::u91::u92::u93::u94::u95::u96::u97::u98::u99::u100::u101::u102::u103::u104::u105::u106::u107::u108::u109::u110::u111::u112::u113::u114::u115::u116::u117::u118::u119::u120::u121::u122::u123::u124::u125::u126::u127::u128::u129::u130::u131::u132::u133::u134::u135::u136::u137::u138::u139::u140::u141::u142::u143::u144::u145::u146::u147::u148::u149::u150::u151::u152::u153::u154::u155::[]),[]⟩ wc:=by
 have Y:=A0c l;obtain⟨D,J⟩:∃D,G++fr=D:=⟨_,rfl⟩;rw[J]at g;have C:=hid F;clear F
 conv=>arg 2;whnf
 conv at P=>enter [a,w',1,2];whnf
 go_upto_block 0 with fail
 go_cut [8] (λq wr=>q=.int .i64 ((min (num (dv ex)) 1099511627776:Nat):Int)/\wr=wc)
 case first=>
  clear P;go_wp2
  go_loopw [8,9] (λq i wr=>∃j:Nat,j<=ex.length/\i=.int .i64 ((k+j:Nat):Int)/\q=.int .i64 ((min (num (dv (ex.take j))) 1099511627776:Nat):Int)/\wr=wc) (λ_ i _=>l.length-(intOf i).toNat)
  case atStart=>exact⟨0,by omega,by go_num,by simp[dv,num],rfl⟩
  case round=>
   obtain⟨j,W,rfl,rfl,rfl⟩:=hrel;have B:min (num (dv (ex.take j))) 1099511627776<=1099511627776:=Nat.min_le_right _ _;by_cases A:j<ex.length
   ·obtain⟨X,V⟩:=E.out j A
    obtain⟨ha,hb⟩:=(A6h _).1 (C.out _ (List.getElem_mem A))
    have N:=hid (show min (min (num (dv (ex.take j))) 1099511627776*10+(ex[j].toNat-48)) 1099511627776=min (num (dv (ex.take (j+1)))) 1099511627776 from by
     rw[B8w,List.take_succ_eq_append_getElem A,A4d];rfl)
    generalize min (num (dv (ex.take j))) 1099511627776=q at*;generalize L:ex[j]=y at*;clear L;go_wp2;go_roundw
    case rel=>exact⟨j+1,by omega,by go_num,by rw[<-N.out];go_num,trivial⟩
    case measure=>simp[intOf];omega
   ·obtain rfl:j=ex.length:=by omega
    rw[List.take_length]at B ⊢;go_wp2;go_meet;exact⟨rfl,rfl⟩
 case rest=>
  obtain⟨rfl,rfl⟩:=hcut;have B:min (num (dv ex)) 1099511627776<=1099511627776:=Nat.min_le_right _ _;obtain⟨q,M⟩:∃q,min (num (dv ex)) 1099511627776=q:=⟨_,rfl⟩;rw[M]at B ⊢;have O:=hid M;have g0:=A1b g.out;have g1:=A0t g.out;have g2:=A1c g.out;have T:=A0u (j:=2) g.out;have d0:=A1b c.out;have d1:=A0t c.out;have d2:=A1c c.out;have Q:=A0u (j:=0) c.out;have R:=A0u (j:=1) c.out;have S:=A0u (j:=2) c.out;clear M E C;cases en
  ·by_cases f:s=[]
   ·
    have p:=hid (show A9i l=some (m,G,fr,false,ex)from o.trans (by rw[C1k,if_pos f]));have n:((k:Int)+(ex.length:Int)==(l.length:Int))=true:=beq_iff_eq.2 (by rw[f]at r;simp at r;omega);clear f;go_wp2;have d:=(Below.heap_setCell wc ⟨w.heap.size+1,2,none⟩ (.int .i64 (-(fr.length:Int)+(q:Int))) w.heap.size (by simp)).trans c.out;have b:=A1y (u:=.int .i64 (-(fr.length:Int)+(q:Int))) (A1s (u:=.string (ofL D)) (A2u (u:=.bool m) d));have t:=A1b b;have x:=A0t b;have z:=A1c b;refine bodyPost_ret (v:=.tuple #[.agg #[.bool m,.string (ofL D),.int .i64 (-(fr.length:Int)+(q:Int))],.bool true]) (by simp[results,Tryz.results148,go_sem,t,x,z]) rfl ?_;refine⟨?_,(((H.setCell (.inr (by simp)) _).setCell (.inr (by simp)) _).setCell (.inr (by simp)) _).setCell (.inr (by simp)) _⟩;refine⟨λ_ _ _ _ _ h=>?_,λh=>(by rw[p.out]at h;cases h)⟩;rw[p.out]at h;simp only[Option.some.injEq,Prod.mk.injEq]at h;obtain⟨rfl,rfl,rfl,rfl,rfl⟩:=h;rw[B4b,J,O.out];congr 6;simp;omega
   ·
    have p:=hid (show A9i l=none from o.trans (by rw[C1k,if_neg f]));have I:0<s.length:=by cases s with|nil=>exact absurd rfl f|cons=>simp
    have n:((k:Int)+(ex.length:Int)==(l.length:Int))=false:=bqF (by omega);clear f;go_wp2;have d:=(Below.heap_setCell wc ⟨w.heap.size+1,2,none⟩ (.int .i64 (-(fr.length:Int)+(q:Int))) w.heap.size (by simp)).trans c.out;have b:=A1y (u:=.int .i64 (-(fr.length:Int)+(q:Int))) (A1s (u:=.string (ofL D)) (A2u (u:=.bool m) d));have t:=A1b b;have x:=A0t b;have z:=A1c b;refine bodyPost_ret (v:=.tuple #[.agg #[.bool m,.string (ofL D),.int .i64 (-(fr.length:Int)+(q:Int))],.bool false]) (by simp[results,Tryz.results148,go_sem,t,x,z]) rfl ?_;refine⟨?_,(((H.setCell (.inr (by simp)) _).setCell (.inr (by simp)) _).setCell (.inr (by simp)) _).setCell (.inr (by simp)) _⟩;exact⟨λ_ _ _ _ _ h=>(by rw[p.out]at h;cases h),λ_=>⟨_,_,_,rfl⟩⟩
  ·by_cases f:s=[]
   ·
    have p:=hid (show A9i l=some (m,G,fr,true,ex)from o.trans (by rw[C1k,if_pos f]));have n:((k:Int)+(ex.length:Int)==(l.length:Int))=true:=beq_iff_eq.2 (by rw[f]at r;simp at r;omega);clear f;go_wp2;have d:=(Below.heap_setCell wc ⟨w.heap.size+1,2,none⟩ (.int .i64 (-(fr.length:Int)+ -(q:Int))) w.heap.size (by simp)).trans c.out;have b:=A1y (u:=.int .i64 (-(fr.length:Int)+ -(q:Int))) (A1s (u:=.string (ofL D)) (A2u (u:=.bool m) d));have t:=A1b b;have x:=A0t b;have z:=A1c b;refine bodyPost_ret (v:=.tuple #[.agg #[.bool m,.string (ofL D),.int .i64 (-(fr.length:Int)+ -(q:Int))],.bool true]) (by simp[results,Tryz.results148,go_sem,t,x,z]) rfl ?_;refine⟨?_,(((H.setCell (.inr (by simp)) _).setCell (.inr (by simp)) _).setCell (.inr (by simp)) _).setCell (.inr (by simp)) _⟩;refine⟨λ_ _ _ _ _ h=>?_,λh=>(by rw[p.out]at h;cases h)⟩;rw[p.out]at h;simp only[Option.some.injEq,Prod.mk.injEq]at h;obtain⟨rfl,rfl,rfl,rfl,rfl⟩:=h;rw[B4b,J,O.out];congr 6;simp;omega
   ·
    have p:=hid (show A9i l=none from o.trans (by rw[C1k,if_neg f]));have I:0<s.length:=by cases s with|nil=>exact absurd rfl f|cons=>simp
    have n:((k:Int)+(ex.length:Int)==(l.length:Int))=false:=bqF (by omega);clear f;go_wp2;have d:=(Below.heap_setCell wc ⟨w.heap.size+1,2,none⟩ (.int .i64 (-(fr.length:Int)+ -(q:Int))) w.heap.size (by simp)).trans c.out;have b:=A1y (u:=.int .i64 (-(fr.length:Int)+ -(q:Int))) (A1s (u:=.string (ofL D)) (A2u (u:=.bool m) d));have t:=A1b b;have x:=A0t b;have z:=A1c b;refine bodyPost_ret (v:=.tuple #[.agg #[.bool m,.string (ofL D),.int .i64 (-(fr.length:Int)+ -(q:Int))],.bool false]) (by simp[results,Tryz.results148,go_sem,t,x,z]) rfl ?_;refine⟨?_,(((H.setCell (.inr (by simp)) _).setCell (.inr (by simp)) _).setCell (.inr (by simp)) _).setCell (.inr (by simp)) _⟩;exact⟨λ_ _ _ _ _ h=>(by rw[p.out]at h;cases h),λ_=>⟨_,_,_,rfl⟩⟩
end Go.Proofs.YtmkkibaacclhnaaGreatDoor
