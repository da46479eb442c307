/-
  Part Sb.
-/
import Derived.Test.YtmkkibaacclhnaaGreatDoorQde
import Derived.Defers
import Derived.Recover
import Derived.Test.YtmkkibaacclhnaaGreatDoorRe
import Derived.BigQuiet
namespace Go.Proofs.YtmkkibaacclhnaaGreatDoor
open Go.RowKit
set_option maxRecDepth 100000
set_option maxHeartbeats 16000000
theorem D8a (B a n X Y:Nat) (y:Value) (S:Nat->Prop) (w0 w:World) (G:w.cell? ⟨X,0,none⟩=some (.pointer (some ⟨B,0,none⟩))) (x:w.heap[Y]? =some (.cells #[y] 24 (0,0))) (d:Y≠B) (h:B5p B a S w0 w) (u:S B\/w0.heap.size<=B) (c:S Y\/w0.heap.size<=Y):
 CallsD Tryz.prog 48 #[.pointer (some ⟨X,0,none⟩),.pointer (some ⟨Y,0,none⟩)] (.panicking [{v:=.iface 153 (.agg #[.int .i64 (n:Int)]),recovered:=false}]) w λe u' w'=>
  e=.returned (.tuple #[])/\u'=.panicking [{v:=.iface 153 (.agg #[.int .i64 (n:Int)]),recovered:=true}]/\F0w B a n S w0 w'/\w'.cell? ⟨Y,0,none⟩=some (.int .i64 (n:Int)):=by
 obtain⟨m,o,q,r,s⟩:=h;have D:=hid (D7y B a n (λi=>i=B) w w ⟨m,o,q,r,Fr.refl _ _⟩ (.inl rfl));have F:=hid x;have l:=hid d;have f:=hid c;have E:=hid u;have C:=hid s;clear o q r s x u d c;refine callsD_of_wpS Tryz.func48 rfl λc₀ m hu=>?_
 apply wpS_seq;apply wpS_region;simp[wpOpsS,go_sem,recoverD,hu,Tryz.ntmps48,Exit.thenS];refine wpS_of_wp ?_;clear hu
 go_wp2_with fail
 refine Calls.mono D.out ?_;rintro e k ⟨rfl,t,g⟩;have b:=g.heap F.out l.out;have H:=A0a b (show(#[y]:Array Value)[0]? =some y from rfl);have I:=A0b (j:=0) b
 have A:=hid (show F0w B a n S w0 (k.setCell ⟨Y,0,none⟩ (.int .i64 (n:Int)))from
  ⟨(Below.heap_setCell _ _ _ _ (λe=>l.out e.symm)).trans t,(C.trans' g (λi h=>by subst h;exact E.out)).setCell (p:=⟨Y,0,none⟩) f.out _⟩)
 have z:=hid (show(k.setCell ⟨Y,0,none⟩ (.int .i64 (n:Int))).cell? ⟨Y,0,none⟩=some (.int .i64 (n:Int))from A0a (heap_setCell_same k Y 0 _ 24 _ b) rfl);clear t g b;go_wp2;simp[bodyPostS,results,Tryz.results48];exact⟨A.out,z.out⟩
theorem D8b (X Y:Nat) (w:World):
 CallsD Tryz.prog 48 #[.pointer (some ⟨X,0,none⟩),.pointer (some ⟨Y,0,none⟩)] .returning w λe u' w'=>e=.returned (.tuple #[])/\u'=.returning/\w'=w:=by
 refine callsD_of_wpS Tryz.func48 rfl λc₀ cs hu=>?_
 apply wpS_seq;apply wpS_region;simp[wpOpsS,go_sem,recoverD,hu,Tryz.ntmps48,Exit.thenS];refine wpS_of_wp ?_;cases c₀;simp only at hu;subst hu;go_wp2;simp[bodyPostS,results,Tryz.results48]
theorem D4x {w:World} {e size n i:Nat} {v:Value} {xs:List Value} (h:w.ownsRow 0 e size v n xs) (a:v.ownBlock=some i):i<w.heap.size:=by
 rcases h.2 with⟨rfl,_⟩|⟨g,cap,b,rfl,_,c,_⟩
 ·cases a
 ·simp[Value.ownBlock]at a
  subst a;exact lt_of_block c
theorem PR.lt {B:Nat} {w:World} {b d e c:Value} {s:Ps} (h:PR B w b d e c s) {i:Nat} (a:own B b d e c i):i<w.heap.size:=by
 rcases a with rfl|a|a|a|a
 ·exact lt_of_block h.blk
 ·exact D4x h.oi a
 ·exact D4x h.oo a
 ·exact D4x h.ot a
 ·exact D4x h.om a
def A8s (Q:Exit->Act->World->Prop):Exit->Act->World->Prop
 |.panic ch,a,w=>∀a':Act,a'.defers=a.defers->Q (.panic ch) a' w
 |e,a,w=>Q e a w
theorem A8s.imp {Q:Exit->Act->World->Prop}:∀(e:Exit) (a:Act) (w:World),A8s Q e a w->Q e a w:=λe a w h=>by
 cases e<;>first|exact h|exact h a rfl
theorem C1u {P:Program} {id:Nat} {c:Array Oper} {b:Bool} {Q:Exit->Act->World->Prop} {a:Act} {w:World} (h:(Code.region id c b).wp P (A8s Q) a w):(Code.region id c b).wp P Q a w:=
 Code.wp_mono A8s.imp h
theorem A8s.normal {Q:Exit->Act->World->Prop} {a:Act} {w:World} (h:Q .normal a w):A8s Q .normal a w:=h
def A4w (Q:Exit->Act->World->Prop):Exit->Act->World->Prop
 |.panic ch,a,w=>∀a':Act,a'.defers=a.defers->a'.tmps[4]? =a.tmps[4]? ->Q (.panic ch) a' w
 |e,a,w=>Q e a w
theorem A4w.imp {Q:Exit->Act->World->Prop}:∀(e:Exit) (a:Act) (w:World),A4w Q e a w->Q e a w:=λe a w h=>by
 cases e<;>first|exact h|exact h a rfl rfl
theorem C1v {P:Program} {id:Nat} {c:Array Oper} {b:Bool} {Q:Exit->Act->World->Prop} {a:Act} {w:World} (h:(Code.region id c b).wp P (A4w Q) a w):(Code.region id c b).wp P Q a w:=
 Code.wp_mono A4w.imp h
theorem A4w.put {Q:Exit->Act->World->Prop} {d:Nat} (b:d≠4) (v:Value) (c:List PanicEntry) (a:Act) (w:World) (h:A4w Q (.panic c) (a.put (some d) v) w):A4w Q (.panic c) a w:=
 λa' h1 h2=>h a' h1 (h2.trans (by simp[Act.put,b]))
theorem E4e (B a n X Y:Nat) (y:Value) (S:Nat->Prop) (w0 w:World) (b:Array Value) (g:b[4]? =some (.pointer (some ⟨Y,0,none⟩))) (k:w.cell? ⟨X,0,none⟩=some (.pointer (some ⟨B,0,none⟩))) (l:w.heap[Y]? =some (.cells #[y] 24 (0,0))) (d:Y≠B) (h:B5p B a S w0 w) (j:S B\/w0.heap.size<=B) (c:S Y\/w0.heap.size<=Y):
 Leaves Tryz.prog Tryz.f31 b (λe w'=>e=.returned (.int .i64 (n:Int))/\F0w B a n S w0 w') [{target:=.fn (.func 48) #[.pointer (some ⟨X,0,none⟩),.pointer (some ⟨Y,0,none⟩)],args:=#[]}] (.panicking [{v:=.iface 153 (.agg #[.int .i64 (n:Int)]),recovered:=false}]) w:=by
 refine leaves_cons (f:=48) (args:=#[.pointer (some ⟨X,0,none⟩),.pointer (some ⟨Y,0,none⟩)]) (by simp) (by simp[go_sem]) ?_;refine(D8a B a n X Y y S w0 w k l d h j c).mono ?_;rintro e p o ⟨rfl,rfl,i,m⟩;simp[Leaves,settle,results,Tryz.results31,go_sem,g,m];exact i
theorem E4f (X Y:Nat) (w:World) (a:Array Value) (R:World->Prop) (y:Value) (b:a[4]? =some (.pointer (some ⟨Y,0,none⟩))) (d:w.cell? ⟨Y,0,none⟩=some y) (c:R w):
 Leaves Tryz.prog Tryz.f31 a (λe w'=>e=.returned y/\R w') [{target:=.fn (.func 48) #[.pointer (some ⟨X,0,none⟩),.pointer (some ⟨Y,0,none⟩)],args:=#[]}] .returning w:=by
 refine leaves_cons (f:=48) (args:=#[.pointer (some ⟨X,0,none⟩),.pointer (some ⟨Y,0,none⟩)]) (by simp) (by simp[go_sem]) ?_;refine(D8b X Y w).mono ?_;rintro e h g ⟨rfl,rfl,rfl⟩;simp[Leaves,settle,results,Tryz.results31,go_sem,b,d];exact c
theorem PC.on {B:Nat} {S:Nat->Prop} {w0 W a:World} {j m n l d f g e:Value} {s c:Ps} (h:PC B S w0 j m n l W s) (k:PC B (own B j m n l) W d f g e a c):PC B S w0 d f g e a c:=by
 refine⟨k.pr,h.fr.trans' k.fr h.ow,λi hi=>?_⟩;rcases k.ow i hi with b|b
 ·exact h.ow i b
 ·have:=h.fr.size
  exact .inr (by omega)
theorem PC.other {B:Nat} {S:Nat->Prop} {w0 W:World} {j m n l:Value} {s:Ps} {Y:Nat} (h:PC B S w0 j m n l W s) (i:¬own B j m n l Y) (o:S Y\/w0.heap.size<=Y) (u:Value):PC B S w0 j m n l (W.setCell ⟨Y,0,none⟩ u) s:=by
 obtain⟨⟨a,b,c,d,e,f⟩,g,k⟩:=h;refine⟨⟨?_,A0q b (λh=>i (.inr (.inl h))) u,A0q c (λh=>i (.inr (.inr (.inl h)))) u,A0q d (λh=>i (.inr (.inr (.inr (.inl h))))) u,A0q e (λh=>i (.inr (.inr (.inr (.inr h))))) u,f⟩,g.setCell (p:=⟨Y,0,none⟩) o u,k⟩;exact(Below.heap_setCell W ⟨Y,0,none⟩ u B (λe=>i (.inl e.symm))).trans a
def G5c (B:Nat) (S:Nat->Prop) (w1:World) (came m k:Nat) (R:Except (Nat×Nat) Ps) (r:LU8) (j:Nat) (wr:World):Prop:=
 ∃vi vo vt vm s',PC B S w1 vi vo vt vm wr s'/\Qv s' vt vm/\PsOk s' (m+3*j) (k+j)/\s'.came=came+j/\R=A0p s' r
theorem F0x (B:Nat) (t u q p:Value) (s:Ps) (m k:Nat) (l:LU8) (R:Except (Nat×Nat) Ps) (w:World) (h:PR B w t u q p s) (hq:Qv s q p) (X:PsOk s m k) (hm:m+3*l.length<=5000000) (hk:k+l.length<=10000000) (hc:s.came<=10000000) (f:R=A0p s l):
 Calls Tryz.prog 31 #[.pointer (some ⟨B,0,none⟩),.string (ofL l)] w λe w'=>e=.returned (.int .i64 ((D2d R:Nat):Int))/\Rd B (own B t u q p) w w' R:=by
 have a9:∀(fn:Fn) (first cap:Array Value) (w:World),(Instr.makeFunc fn first cap).run Tryz.prog w=.ok (.func fn first cap) w:=λ_ _ _ _=>rfl
 have a5:=A0c l;have H:=lt_of_block h.blk;have k3:∀a b,((w.alloc a).alloc b).cell? ⟨B,3,none⟩=some (.bool false):=λa b=>A0a (T:=113) (((Below.heap_alloc (w.alloc a) b B (by simp;omega)).trans (Below.heap_alloc w a B H)).trans h.blk) rfl
 have k2:∀a b,((w.alloc a).alloc b).cell? ⟨B,2,none⟩=some (.int .i64 0):=λa b=>A0a (T:=113) (((Below.heap_alloc (w.alloc a) b B (by simp;omega)).trans (Below.heap_alloc w a B H)).trans h.blk) rfl
 have M:∀a b,Fr (λ_=>False) w ((w.alloc a).alloc b):=λa b=>((Fr.refl _ _).alloc a).alloc b
 obtain⟨y,o⟩:∃y,y=(w.alloc (.cells #[.pointer (some ⟨B,0,none⟩)] 74)).alloc (.cells #[.int .i64 0] 24):=⟨_,rfl⟩;have J:Fr (λ_=>False) w y:=by rw[o];exact M _ _
 have A:=(PC.start h).same J;have O:=PC.start A.pr
 have Y:y.heap[w.heap.size]? =some (.cells #[.pointer (some ⟨B,0,none⟩)] 74 (0,0)):=by
  rw[o,Below.heap_alloc _ _ _ (by simp)];exact heap_alloc_new _ _
 have Z:y.heap[w.heap.size+1]? =some (.cells #[.int .i64 0] 24 (0,0)):=by
  rw[o];have:=heap_alloc_new (w.alloc (.cells #[.pointer (some ⟨B,0,none⟩)] 74)) (.cells #[.int .i64 0] 24);simpa using this
 have U:¬own B t u q p w.heap.size:=λhh=>by have:=h.lt hh;omega
 have V:¬own B t u q p (w.heap.size+1):=λhh=>by have:=h.lt hh;omega
 have a1:=hid (show G5c B (own B t u q p) y s.came m k R (l.drop 0) 0 y from⟨t,u,q,p,s,O,hq,X,rfl,f⟩);have C:=hid (And.intro Y U);have D:=hid (And.intro Z V);have HP:=hid A;clear h hq X A O Y Z U V J M f;have HW:=hid o;clear o
 go_enter_defers Tryz.func31,Tryz.ntmps31
 go_wp2;rw[<-HW.out]
 go_loopw [22] (λi wr=>∃j:Nat,j<=l.length/\i=.int .i64 j/\Hid (G5c B (own B t u q p) y s.came m k R (l.drop j) j wr)) (λi _=>l.length-(intOf i).toNat)
 case atStart=>exact⟨0,by omega,rfl,a1⟩
 case round=>
  obtain⟨j,hj,rfl,hI⟩:=hrel;obtain⟨ui,uo,ut,um,s',r,P,N,x,f⟩:=hI.out;have cX:=A0a (r.fr.heap C.1 C.2) (show(#[.pointer (some ⟨B,0,none⟩)]:Array Value)[0]? =some (.pointer (some ⟨B,0,none⟩))from rfl);have z:=r.fr.heap D.1 D.2;by_cases S:j<l.length
  ·have hg:(ofL l)[j]'(by rw[a5];exact S)=l[j]:=A1d l j _
   have hd:l.drop j=l[j]::l.drop (j+1):=List.drop_eq_getElem_cons S;rw[hd,A0p]at f;have HT:=hid (F0v B ui uo ut um s' _ _ l[j] wr.drew r.drew.pr P N (by omega) (by omega));cases E:A1u s' l[j]with
   |ok s2=>
    rw[E]at HT f;simp only at f;have HR:=hid f;have F:=hid (show s2.came=s.came+j from(B3t E).trans x);have HO:=hid (C8j (C8i N E));have HC:=hid r.drew;generalize l[j]=c at*;clear f hI P N x r z E hd k2 k3;go_wp2;refine C1u ?_
    go_region_with (refine Calls.mono HT.out ?_;rintro e w2 ⟨rfl,hp⟩;obtain⟨ai,ao,G,am,g,Q⟩:=HC.trans hp;have a7:=A0a (g.fr.heap C.1 C.2) (show(#[.pointer (some ⟨B,0,none⟩)]:Array Value)[0]? =some (.pointer (some ⟨B,0,none⟩))from rfl);have j1:=A0a g.pr.blk (show(A0f s2 ai ao G am)[1]? =some (.int .i64 (s2.came:Int))from rfl);have f1:=A0b (j:=1) g.pr.blk;have a8:s2.came<=20000000:=(by rw[F.out];omega);have a0:=hid g;have a2:=hid Q;clear g Q hp)
    all_goals
     refine A8s.normal ?_;go_wp2;go_roundw
     case rel=>exact⟨j+1,by omega,by go_num,hid ⟨ai,ao,G,am,A9y s2,a0.cell 1 _ (A9y s2) rfl rfl rfl rfl rfl,a2.out,HO.out,by show s2.came+1=_;rw[F.out];omega,HR.out⟩⟩
     case measure=>simp[intOf];omega
   |error n=>
    rw[E]at HT f;simp only at f;subst f;have HC:=hid r.drew;have a6:=hid z;generalize l[j]=c at*;clear hI P N x r z E hd k2 k3;go_wp2;refine C1v ?_;refine wp_region_any (by kernel_rfl) ?_
    change wpAny _ _ _ _ _ _ _ (World.drew _)
    refine wpAny_take (i:=1) (v:=?_) rfl (by kernel_rfl) (by kernel_rfl) (by kernel_rfl) (λc a w h=>A4w.put (d:=26) (by decide) _ c a w h) (Or.inl ⟨by rfl,?_⟩) ?_
    rotate_left
    ·(intro w;go_simp;try with_reducible rfl)
    refine wpAny_take (i:=2) (v:=?_) rfl (by kernel_rfl) (by kernel_rfl) (by kernel_rfl) (λc a w h=>A4w.put (d:=27) (by decide) _ c a w h) (Or.inl ⟨by rfl,?_⟩) ?_
    rotate_left
    ·(intro w;go_simp;try with_reducible rfl)
    refine wpAny_take (i:=3) (v:=?_) rfl (by kernel_rfl) (by kernel_rfl) (by kernel_rfl) (λc a w h=>A4w.put (d:=28) (by decide) _ c a w h) (Or.inl ⟨by rfl,?_⟩) ?_
    rotate_left
    ·(intro w;go_simp;try with_reducible rfl)
    refine wpAny_ready (rs:=[0]) (by kernel_rfl) (by simp) ?_;refine AllReady.cons rfl (λK hK=>?_) AllReady.nil
    go_simp
    refine hK _ _ ?_;clear hK K;refine wpAny_ready (rs:=[4]) (by kernel_rfl) (by simp) ?_;refine AllReady.cons rfl (λK hK=>?_) AllReady.nil
    go_simp
    refine Calls.mono HT.out ?_;rintro e w2 ⟨rfl,hE⟩
    show∀a':Act,_->_->Leaves _ _ _ _ _ _ _
    intro a' h1 h2;rw[h1];have I:=HC.errs hE;have a4:=HP.errs I;obtain⟨_,_,_,_,L⟩:=I;exact E4e B s'.came n w.heap.size (w.heap.size+1) (.int .i64 0) (own B t u q p) w w2 a'.tmps (h2.trans rfl) (A0a (L.heap C.1 C.2) rfl) (L.heap D.1 D.2) (by omega) a4 (.inl (.inl rfl)) (.inr (by omega))
  ·obtain rfl:j=l.length:=by omega
   rw[List.drop_length,A0p]at f;subst f;have y1:=A0a z (show(#[.int .i64 0]:Array Value)[0]? =some (.int .i64 0)from rfl);have y2:=A0b (j:=0) z
   have W:¬own B ui uo ut um (w.heap.size+1):=λhh=>by
    have:=lt_of_block D.1;rcases r.ow _ hh with h|h
    ·exact D.2 h
    ·omega
   have HD:=hid (show Rd B (own B t u q p) w (wr.setCell ⟨w.heap.size+1,0,none⟩ (.int .i64 0)) (.ok s')from
    ⟨ui,uo,ut,um,(HP.on r).other W (.inr (by omega)) _,P⟩)
   have a3:=hid (show(wr.setCell ⟨w.heap.size+1,0,none⟩ (.int .i64 0)).cell? ⟨w.heap.size+1,0,none⟩=some (.int .i64 0)from A0a (heap_setCell_same wr (w.heap.size+1) 0 _ 24 _ z) rfl);clear hI P N x r z W k2 k3;go_wp2;exact E4f w.heap.size (w.heap.size+1) _ _ (λw'=>Rd B (own B t u q p) w w' (.ok s')) (.int .i64 0) rfl a3.out HD.out
def A0e (l:LU8) (pos inn d:Nat) (vi:Value) (e:Nat) (en la:Bool):Array Value:=
 #[.string (ofL l),.int .i64 (pos:Int),.int .i64 (inn:Int),.int .i64 (d:Int),vi,.int .i64 (e:Int),.bool en,.bool la]
structure SC (B:Nat) (w0 w:World) (l p:LU8) (inn d:Nat) (vi:Value) (its:List It) (e:Nat) (en la:Bool):Prop where
 blk:w.heap[B]? =some (.cells (A0e l (l.length-p.length) inn d vi e en la) 120 (0,0))
 oi:w.ownsRow 0 29 4 vi its.length (B3e its)
 suf:p<:+l
 fr:Fr (λ_=>False) w0 w
 hB:w0.heap.size<=B
 hv:∀i,vi.ownBlock=some i->w0.heap.size<=i
theorem SC.cell {B:Nat} {w0 w:World} {l p p':LU8} {inn inn' d:Nat} {i:Value} {its:List It} {e e':Nat} {en en' m la':Bool} (h:SC B w0 w l p inn d i its e en m) (j:Nat) (u:Value) (o:p'<:+l)
 (n:(A0e l (l.length-p.length) inn d i e en m).setIfInBounds j u=A0e l (l.length-p'.length) inn' d i e' en' la'):SC B w0 (w.setCell ⟨B,j,none⟩ u) l p' inn' d i its e' en' la':=by
 obtain⟨a,b,c,f,g,k⟩:=h;refine⟨?_,A0q b (A8y b a (by decide)) u,o,f.setCell (p:=⟨B,j,none⟩) (.inr g) u,g,k⟩;rw[<-n];exact heap_setCell_same w B j _ 120 u a
theorem SC.drew {B:Nat} {w0 w:World} {l p:LU8} {inn d:Nat} {b:Value} {its:List It} {e:Nat} {en a:Bool} (h:SC B w0 w l p inn d b its e en a):SC B w0 w.drew l p inn d b its e en a:=
 ⟨h.blk,h.oi,h.suf,h.fr.drew,h.hB,h.hv⟩
theorem SC.drewN {B:Nat} {w0 w:World} {l p:LU8} {inn d:Nat} {b:Value} {its:List It} {e:Nat} {en a:Bool} (h:SC B w0 w l p inn d b its e en a) (n:Nat):SC B w0 (w.drewN n) l p inn d b its e en a:=
 ⟨h.blk,h.oi,h.suf,h.fr.drewN n,h.hB,h.hv⟩
theorem SC.at_ {B:Nat} {w0 w:World} {l p:LU8} {inn d:Nat} {b:Value} {its:List It} {e:Nat} {en a:Bool} (h:SC B w0 w l p inn d b its e en a):p.length<=l.length:=h.suf.length_le
theorem A3i {l q:LU8} {c:UInt8} (h:(c::q)<:+l):∃a:l.length-(c::q).length<l.length,l[l.length-(c::q).length]=c:=by
 obtain⟨t,rfl⟩:=h;have a:(t++c::q).length-(c::q).length=t.length:=by simp
 refine⟨by simp,?_⟩;simp only[a];simp
theorem C5x {l q:LU8} {c:UInt8} (h:(c::q)<:+l):q<:+l:=(List.suffix_cons c q).trans h
theorem B0x {l q:LU8} {c:UInt8} (h:(c::q)<:+l):l.length-q.length=l.length-(c::q).length+1:=by
 have:=h.length_le;simp only[List.length_cons]at this ⊢;omega
theorem B0y (B:Nat) (w0 w:World) (l:LU8) (inn d:Nat) (b:Value) (its:List It) (e:Nat) (en a:Bool) (h:SC B w0 w l [] inn d b its e en a):
 Calls Tryz.prog 93 #[.pointer (some ⟨B,0,none⟩)] w λx w'=>x=.returned (.bool false)/\SC B w0 w' l [] inn d b its e true a:=by
 have c:=hid (h.drew.cell 6 (.bool true) (p':=[]) (inn':=inn) (e':=e) (en':=true) (la':=a) h.suf rfl);have k:=A0a h.blk (show(A0e l (l.length-0) inn d b e en a)[0]? =some (.string (ofL l))from rfl);have g:=A0a h.blk (show(A0e l (l.length-0) inn d b e en a)[1]? =some (.int .i64 ((l.length-0:Nat):Int))from rfl);have m:=A0a h.blk (show(A0e l (l.length-0) inn d b e en a)[6]? =some (.bool en)from rfl);have i:=A0b (j:=6) h.blk;rw[Nat.sub_zero]at g;have f:=A0c l;clear h;go_enter Tryz.func93,Tryz.ntmps93;go_wp2;go_region
 all_goals
  go_wp2;go_ret;exact⟨rfl,c.out⟩
theorem A7v (B:Nat) (w0 w:World) (l:LU8) (c:UInt8) (q:LU8) (inn d:Nat) (b:Value) (its:List It) (e:Nat) (en a:Bool) (h:SC B w0 w l (c::q) inn d b its e en a):
 Calls Tryz.prog 93 #[.pointer (some ⟨B,0,none⟩)] w λx w'=>x=.returned (.bool true)/\w'=w.drew:=by
 have i:=A0a h.blk (show(A0e l (l.length-(c::q).length) inn d b e en a)[0]? =some (.string (ofL l))from rfl);have j:=A0a h.blk (show(A0e l (l.length-(c::q).length) inn d b e en a)[1]? =some (.int .i64 ((l.length-(c::q).length:Nat):Int))from rfl);obtain⟨g,_⟩:=A3i h.suf;generalize l.length-(c::q).length=k at*;have f:=A0c l;clear h;go_enter Tryz.func93,Tryz.ntmps93;go_wp2;go_region
 all_goals
  go_wp2;go_ret;exact⟨rfl,rfl⟩
theorem A2m (B:Nat) (w0 w:World) (l p:LU8) (inn d:Nat) (b:Value) (its:List It) (e n:Nat) (en a:Bool) (h:SC B w0 w l p inn d b its e en a):
 Calls Tryz.prog 88 #[.pointer (some ⟨B,0,none⟩),.int .i64 (n:Int)] w λx w'=>x=.returned (.bool false)/\SC B w0 w' l p inn d b its n en a:=by
 have c:=hid (h.cell 5 (.int .i64 (n:Int)) (p':=p) (inn':=inn) (e':=n) (en':=en) (la':=a) h.suf rfl);have g:=A0a h.blk (show(A0e l (l.length-p.length) inn d b e en a)[5]? =some (.int .i64 (e:Int))from rfl);have f:=A0b (j:=5) h.blk;clear h;go_enter Tryz.func88,Tryz.ntmps88;go_wp2;go_ret;exact⟨rfl,c.out⟩
def atOf (w:World) (B:Nat):Nat:=(intOf ((w.cell? ⟨B,1,none⟩).getD undef)).toNat
theorem SC.atOf {B:Nat} {w0 w:World} {l p:LU8} {inn d:Nat} {b:Value} {its:List It} {e:Nat} {en a:Bool} (h:SC B w0 w l p inn d b its e en a):atOf w B=l.length-p.length:=by
 unfold YtmkkibaacclhnaaGreatDoor.atOf;rw[A0a h.blk (show(A0e l (l.length-p.length) inn d b e en a)[1]? =some (.int .i64 ((l.length-p.length:Nat):Int))from rfl)];simp[intOf]
theorem F0y {c:UInt8} (h:B2x c=true):c=32\/c=9\/c=10\/c=13:=by
 rcases of_decide_eq_true h with h|h|h|h
 ·exact .inl h
 ·exact .inr (.inr (.inl h))
 ·exact .inr (.inr (.inr h))
 ·exact .inr (.inl h)
theorem E4g {c:UInt8} (h:B2x c=false):c≠32/\c≠9/\c≠10/\c≠13:=by
 have:=of_decide_eq_false h;exact⟨λe=>this (.inl e),λe=>this (.inr (.inr (.inr e))),λe=>this (.inr (.inl e)),λe=>this (.inr (.inr (.inl e)))⟩
theorem SC.step {B:Nat} {w0 w:World} {l q:LU8} {c:UInt8} {inn d:Nat} {b:Value} {its:List It} {e:Nat} {en a:Bool} (h:SC B w0 w l (c::q) inn d b its e en a):
 SC B w0 (w.setCell ⟨B,1,none⟩ (.int .i64 ((l.length-(c::q).length:Nat)+1:Int))) l q inn d b its e en a:=by
 refine h.cell 1 _ (C5x h.suf) ?_;rw[B0x h.suf];rfl
theorem A2n (B:Nat) (w0 w:World) (l p:LU8) (inn d:Nat) (g:Value) (its:List It) (e:Nat) (en f:Bool) (O:l.length<=100000000) (h:SC B w0 w l p inn d g its e en f):
 Calls Tryz.prog 53 #[.pointer (some ⟨B,0,none⟩)] w λx w'=>x=.returned (.bool (!(A0s p).isEmpty))/\SC B w0 w' l (A0s p) inn d g its e (en||(A0s p).isEmpty) f:=by
 have H:=hid h;clear h;go_enter Tryz.func53,Tryz.ntmps53;go_wp2
 go_loopw [] (λwr=>∃p',Hid (SC B w0 wr l p' inn d g its e en f)/\Hid (A0s p'=A0s p)) (λwr=>l.length-atOf wr B)
 case atStart=>exact⟨p,H,hid rfl⟩
 case round=>
  obtain⟨p',b,i⟩:=hrel;have t:=A0c l;cases p' with
  |nil=>
   have L:=A0a b.blk (show(A0e l (l.length-0) inn d g e en f)[0]? =some (.string (ofL l))from rfl);have y:=A0a b.blk (show(A0e l (l.length-0) inn d g e en f)[1]? =some (.int .i64 ((l.length-0:Nat):Int))from rfl);rw[Nat.sub_zero]at y;have m:A0s p=[]:=i.symm;have s:=hid (λn=>B0y B w0 _ l inn d g its e en f (b.drewN n));have F:=hid m;clear m;go_wp2;go_quiet (fail)
   go_wp2_with fail
   refine Calls.mono (s.out _) ?_;rintro x M ⟨rfl,u⟩;have E:=hid u;clear u;go_wp2;go_ret;rw[F.out];exact⟨rfl,by simpa using E.out⟩
  |cons c q=>
   obtain⟨J,v⟩:=A3i b.suf;have L:=A0a b.blk (show(A0e l (l.length-(c::q).length) inn d g e en f)[0]? =some (.string (ofL l))from rfl);have y:=A0a b.blk (show(A0e l (l.length-(c::q).length) inn d g e en f)[1]? =some (.int .i64 ((l.length-(c::q).length:Nat):Int))from rfl);have N:=A0b (j:=1) b.blk;have I:(ofL l)[l.length-(c::q).length]'(by rw[t];exact J)=c:=(A1d l _ _).trans v;have a:=hid (λn=>(b.drewN n).step);have s:=hid (λn=>A7v B w0 _ l c q inn d g its e en f (b.drewN n));have G:=hid (λn=>(b.drewN n).drew);have r:=hid b.atOf;have K:=B0x b.suf;generalize l.length-(c::q).length=k at*;clear v;by_cases o:B2x c=true
   ·have m:A0s (c::q)=A0s q:=by rw[A0s,if_pos o]
    rw[m]at i;clear m;rcases F0y o with rfl|rfl|rfl|rfl
    ·go_wp2
     go_quiet (fail);go_wp2;exact⟨⟨q,hid (a.out _),i⟩,by rw[(a.out _).atOf,r.out];omega⟩
    ·go_wp2
     go_quiet (fail);go_wp2;exact⟨⟨q,hid (a.out _),i⟩,by rw[(a.out _).atOf,r.out];omega⟩
    ·go_wp2
     go_quiet (fail);go_wp2;exact⟨⟨q,hid (a.out _),i⟩,by rw[(a.out _).atOf,r.out];omega⟩
    ·go_wp2
     go_quiet (fail);go_wp2;exact⟨⟨q,hid (a.out _),i⟩,by rw[(a.out _).atOf,r.out];omega⟩
   ·have o:B2x c=false:=Bool.eq_false_iff.2 o
    have m:A0s (c::q)=c::q:=by rw[A0s,o];rfl
    rw[m]at i;obtain⟨z,A,C,D⟩:=E4g o;have P:((c.toNat:Int)==32)=false:=bqF (by have:=A0k z;simp at this;omega);have Q:((c.toNat:Int)==9)=false:=bqF (by have:=A0k A;simp at this;omega);have R:((c.toNat:Int)==10)=false:=bqF (by have:=A0k C;simp at this;omega);have S:((c.toNat:Int)==13)=false:=bqF (by have:=A0k D;simp at this;omega);clear m z A C D o;go_wp2;go_quiet (fail)
    go_wp2_with fail
    refine Calls.mono (s.out _) ?_;rintro x M ⟨rfl,rfl⟩;go_wp2;go_ret;rw[<-i.out];exact⟨rfl,by simpa using G.out _⟩
def F0z:LU8:=[48,49,50,51,52,53,54,55,56,57,97,98,99,100,101,102,65,66,67,68,69,70]
theorem F1a:∀k:Nat,(h:k<22)->B5v (F0z[k]'h)=some (if k<16 then k else k-6):=by decide
theorem G1p:∀j:Nat,(h:j<10)->F0z[j]'(by show j<22;omega)=UInt8.ofNat (48+j):=by decide
theorem G1q:∀j:Nat,(h:j<6)->F0z[10+j]'(by show 10+j<22;omega)=UInt8.ofNat (97+j):=by decide
theorem G1r:∀j:Nat,(h:j<6)->F0z[16+j]'(by show 16+j<22;omega)=UInt8.ofNat (65+j):=by decide
theorem E4h (c:UInt8) (h:∀j:Nat,(f:j<22)->F0z[j]'f≠c):B5v c=none:=by
 have a:UInt8.ofNat c.toNat=c:=by simp
 unfold B5v;by_cases b:48<=c.toNat/\c.toNat<=57
 ·exfalso
  refine h (c.toNat-48) (by omega) ((G1p (c.toNat-48) (by omega)).trans ?_);rw[show 48+(c.toNat-48)=c.toNat by omega,a]
 rw[if_neg b];by_cases d:97<=c.toNat/\c.toNat<=102
 ·exfalso
  refine h (10+(c.toNat-97)) (by omega) ((G1q (c.toNat-97) (by omega)).trans ?_);rw[show 97+(c.toNat-97)=c.toNat by omega,a]
 rw[if_neg d];by_cases e:65<=c.toNat/\c.toNat<=70
 ·exfalso
  refine h (16+(c.toNat-65)) (by omega) ((G1r (c.toNat-65) (by omega)).trans ?_);rw[show 65+(c.toNat-65)=c.toNat by omega,a]
 rw[if_neg e]
def G5i:Option Nat->Int
 |some h=>h
 |none=> -1
theorem F1b (c:UInt8) (w:World):Calls Tryz.prog 215 #[.int .u8 (c.toNat:Int)] w λx w'=>x=.returned (.int .i64 (G5i (B5v c)))/\w'=w:=by
 have n:(ofL F0z).size=22:=rfl;go_enter Tryz.func215,Tryz.ntmps215;go_wp2
 go_loopw [4] (λi wr=>∃k:Nat,k<=22/\i=.int .i64 k/\Hid (∀j:Nat,j<k->(hj:j<22)->F0z[j]'hj≠c)/\wr=w) (λi _=>22-(intOf i).toNat)
 case atStart=>exact⟨0,by omega,rfl,hid (λj hj=>by omega),rfl⟩
 case round=>
  obtain⟨k,q,rfl,g,rfl⟩:=hrel;by_cases a:k<22
  ·have p:(ByteArray.mk #[48,49,50,51,52,53,54,55,56,57,97,98,99,100,101,102,65,66,67,68,69,70])[k]'a=F0z[k]'a:=rfl
   have d:=hid (F1a k a);generalize h:F0z[k]'a=y at*;by_cases f:y=c
   ·subst f
    by_cases b:k<16
    ·rw[if_pos b]at d
     go_wp2;go_ret;rw[d.out];exact⟨rfl,rfl⟩
    ·rw[if_neg b]at d
     go_wp2;go_ret;rw[d.out];refine⟨?_,rfl⟩
     show Ending.returned (.int .i64 ((k:Int)-6))=.returned (.int .i64 ((k-6:Nat):Int))
     congr 2;omega
   ·have o:((y.toNat:Int)==(c.toNat:Int))=false:=bqF (by have:=A0k f;omega)
    have l:=hid h;have m:=hid f;clear h f;go_wp2;go_roundw
    case rel=>exact⟨k+1,by omega,by go_num,hid (λj hj hj2=>by
     by_cases e:j=k
     ·subst e;rw[l.out];exact m.out
     ·exact g.out j (by omega) hj2),trivial⟩
    case measure=>simp[intOf];omega
  ·obtain rfl:k=22:=by omega
   go_wp2;go_ret;rw[E4h c (λj hj=>g.out j hj hj)];exact⟨rfl,rfl⟩
theorem B4x (w:World) (bs:LU8) (b:Array Value) (n:Nat) (c:bs.length=n) (d:n<=1000) (a:b.toList=us bs):
 (convert 65 9 (.slice (some ⟨w.heap.size,0,none⟩) n n)).run Tryz.prog (w.alloc (.cells b 5))=.ok (.string (ofL bs)) (w.alloc (.cells b 5)):=by
 subst c;refine B6f ?_;rw[<-a];exact World.ownsRow_lit w b bs.length (Nat.zero_le _) (by unfold maxLen;omega) (by have:=congrArg List.length a;simp[us]at this;omega)
theorem C8w (n:Nat) (w:World) (j:n<1114112):Calls Tryz.prog 189 #[.int .i64 (n:Int)] w λx w'=>x=.returned (.string (ofL (A3z n)))/\Fr (λ_=>False) w w':=by
 have h:=hid (show∀ob,Fr (λ_=>False) w (w.alloc ob)fromλob=>(Fr.refl _ _).alloc ob);unfold A3z;by_cases e:n<128
 ·rw[if_pos e]
  obtain⟨bs,a⟩:∃bs,[UInt8.ofNat n]=bs:=⟨_,rfl⟩;have b:n<256:=by omega
  have d:=B4x w bs #[.int .u8 ((n:Int))] 1 (by rw[<-a];rfl) (by omega) (by rw[<-a];simp[us,Nat.mod_eq_of_lt b]);rw[a];clear a b;have k:(0:Int)<=(n:Int):=by omega
  have l:(n:Int)<128:=by omega
  generalize (n:Int)=R at*;clear e j;go_enter Tryz.func189,Tryz.ntmps189;go_wp2;go_ret;exact⟨rfl,h.out _⟩
 rw[if_neg e];by_cases g:n<2048
 ·rw[if_pos g]
  obtain⟨bs,a⟩:∃bs,[UInt8.ofNat (192+n/64),UInt8.ofNat (128+n % 64)]=bs:=⟨_,rfl⟩;have b:192+n/64<256:=by omega
  have c:128+n % 64<256:=by omega
  have d:=B4x w bs #[.int .u8 (192+(n:Int)/64),.int .u8 (128+(n:Int) % 64)] 2 (by rw[<-a];rfl) (by omega) (by rw[<-a];simp[us,Nat.mod_eq_of_lt b,Nat.mod_eq_of_lt c]);rw[a];clear a b c;have k:(128:Int)<=(n:Int):=by omega
  have l:(n:Int)<2048:=by omega
  generalize (n:Int)=R at*;clear e g j;go_enter Tryz.func189,Tryz.ntmps189;go_wp2;go_ret;exact⟨rfl,h.out _⟩
 rw[if_neg g];by_cases i:n<65536
 ·rw[if_pos i]
  obtain⟨bs,a⟩:∃bs,[UInt8.ofNat (224+n/4096),UInt8.ofNat (128+n/64 % 64),UInt8.ofNat (128+n % 64)]=bs:=⟨_,rfl⟩;have b:224+n/4096<256:=by omega
  have c:128+n/64 % 64<256:=by omega
  have f:128+n % 64<256:=by omega
  have d:=B4x w bs #[.int .u8 (224+(n:Int)/4096),.int .u8 (128+(n:Int)/64 % 64),.int .u8 (128+(n:Int) % 64)] 3 (by rw[<-a];rfl) (by omega) (by rw[<-a];simp[us,Nat.mod_eq_of_lt b,Nat.mod_eq_of_lt c,Nat.mod_eq_of_lt f]);rw[a];clear a b c f;have k:(2048:Int)<=(n:Int):=by omega
  have l:(n:Int)<65536:=by omega
  generalize (n:Int)=R at*;clear e g i j;go_enter Tryz.func189,Tryz.ntmps189;go_wp2;go_ret;exact⟨rfl,h.out _⟩
 ·rw[if_neg i]
  obtain⟨bs,a⟩:∃bs,[UInt8.ofNat (240+n/262144),UInt8.ofNat (128+n/4096 % 64),UInt8.ofNat (128+n/64 % 64),UInt8.ofNat (128+n % 64)]=bs:=⟨_,rfl⟩;have b:240+n/262144<256:=by omega
  have c:128+n/4096 % 64<256:=by omega
  have f:128+n/64 % 64<256:=by omega
  have m:128+n % 64<256:=by omega
  have d:=B4x w bs #[.int .u8 (240+(n:Int)/262144),.int .u8 (128+(n:Int)/4096 % 64),.int .u8 (128+(n:Int)/64 % 64),.int .u8 (128+(n:Int) % 64)] 4 (by rw[<-a];rfl) (by omega) (by rw[<-a];simp[us,Nat.mod_eq_of_lt b,Nat.mod_eq_of_lt c,Nat.mod_eq_of_lt f,Nat.mod_eq_of_lt m]);rw[a];clear a b c f m;have k:(65536:Int)<=(n:Int):=by omega
  have l:(n:Int)<1114112:=by omega
  generalize (n:Int)=R at*;clear e g i j;go_enter Tryz.func189,Tryz.ntmps189;go_wp2;go_ret;exact⟨rfl,h.out _⟩
end Go.Proofs.YtmkkibaacclhnaaGreatDoor
