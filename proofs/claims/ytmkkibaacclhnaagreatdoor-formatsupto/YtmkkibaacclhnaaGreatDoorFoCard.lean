/-
  The law decantlaw.Formats, second form, its card: whatever the pieces, the depth, the indent and the order, of bulk at most 1048576, the two tables of unicode/utf8 laid as the program's text lays them: the program formats as the document says, and changes nothing that it was given.
-/
import Derived.Test.YtmkkibaacclhnaaGreatDoorYg
import Derived.StillTailTactics
import Derived.Test.YtmkkibaacclhnaaGreatDoorRows
import Derived.Test.YtmkkibaacclhnaaGreatDoorTie
import Derived.Test.YtmkkibaacclhnaaGreatDoorCards
import Derived.Lib.LaidIn
import Derived.Lib.LaidU8T
import Derived.Deep.DeepHandedRow
import Derived.Deep.DeepWitnessRowRef
import Derived.ProofKit
import Derived.OpenShut
import Derived.JoinedCond
import Derived.Carry
import Derived.ChangeSlices
import Derived.SizedLaws
import Derived.Leaving
namespace Go.Proofs.YtmkkibaacclhnaaGreatDoor
open Go.RowKit Go.ChangeShapes Go.WideShapes Go.ChangeAt
set_option maxRecDepth 100000
set_option maxHeartbeats 16000000
theorem E8f:A3u 2 0 4611686018427387904:=by
 show Rnd (2*pP 0) (p10 0) 4611686018427387904
 unfold Rnd;decide+kernel
theorem G3f:mid 4611686018427387904<6*p2 1074:=by decide+kernel
theorem G4w:2*p2 1074<mid 4611686018427387903:=by decide+kernel
theorem G4x:2*p2 1074<mid 4611686018427387903*10:=by decide+kernel
theorem D6i:4611686018427387904-1=4611686018427387903:=by omega
theorem E8g {D:Nat} {c:Int} (h:B1e 4611686018427387904 D c):D=2/\c=0:=by
 have hr:=h.rnd (by omega);have i:=hr.pos (by omega);have j:D*pP c=D*p10 c.toNat*p2 1074:=by rw[pP,Nat.mul_assoc]
 have u:=A2y 1074
 have q:c<=0:=by
  rcases Int.lt_or_le 0 c with e|e
  ·exfalso
   obtain⟨_,b⟩:=hr;rw[j,show(-c).toNat=0 by omega,show p10 0=1 from rfl,Nat.mul_one]at b;have d:=A3r 1 c.toNat (by omega);rw[show p10 1=10 from rfl]at d;have f:1*10<=D*p10 c.toNat:=Nat.mul_le_mul i d;have o:1*10*p2 1074<=D*p10 c.toNat*p2 1074:=Nat.mul_le_mul_right _ f;have:=G3f;omega
  ·exact e
 have p:0<=c:=by
  rcases Int.lt_or_le c 0 with e|e
  ·exfalso
   obtain⟨s,R,L,H,U,t,n,m⟩:=h;rcases m with rfl|m
   ·have l:D=1:=by rcases B1p n with rfl|rfl<;>omega
    obtain⟨a,_⟩:=hr
    have g:mid (4611686018427387904-1)*p10 (-c).toNat<=2*(D*pP c):=by
     rcases a with a|a|⟨a,_⟩
     ·exact absurd a (by decide)
     ·exact Nat.le_of_lt a
     ·exact Nat.le_of_eq a
    rw[D6i]at g
    have r:D*pP c=p2 1074:=by
     rw[j,l,show c.toNat=0 by omega,show p10 0=1 from rfl,Nat.one_mul]
    rw[r]at g;have d:=A3r 1 (-c).toNat (by omega);have f:p10 1=10:=rfl;rw[f]at d;have k:=Nat.mul_le_mul_left (mid 4611686018427387903) d;exact absurd G4x (Nat.not_lt.2 (Nat.le_trans k g))
   ·refine m.none (by omega) (2*p10 (-1-c).toNat) ?_
    have:=E8f.same (B1q.shift 2 (-1-c).toNat 0);rwa[show(0:Int)-((-1-c).toNat:Int)=c+1 by omega]at this
  ·exact e
 obtain rfl:c=0:=by omega
 refine⟨?_,rfl⟩;obtain⟨a,b⟩:=hr
 have g:mid (4611686018427387904-1)*p10 (-(0:Int)).toNat<=2*(D*pP 0):=by
  rcases a with a|a|⟨a,_⟩
  ·exact absurd a (by decide)
  ·exact Nat.le_of_lt a
  ·exact Nat.le_of_eq a
 rw[D6i,j,show(0:Int).toNat=0 from rfl,show p10 0=1 from rfl,Nat.mul_one,show(-(0:Int)).toNat=0 from rfl,show p10 0=1 from rfl,Nat.mul_one]at g;rw[j,show(0:Int).toNat=0 from rfl,show p10 0=1 from rfl,Nat.mul_one,show(-(0:Int)).toNat=0 from rfl,show p10 0=1 from rfl,Nat.mul_one]at b;have e:=G3f;have o:=G4w;rcases Nat.lt_or_ge D 3 with d|d
 ·rcases Nat.lt_or_ge D 2 with f|f
  ·exfalso
   have k:D*p2 1074<=1*p2 1074:=Nat.mul_le_mul_right _ (by omega);omega
  ·omega
 ·exfalso
  have k:3*p2 1074<=D*p2 1074:=Nat.mul_le_mul_right _ d;omega
theorem E0n (w:World):A9p 4611686018427387904=[50]:=by
 have a:Calls Tryz.prog 23 #[.int .u64 ((4611686018427387904:Nat):Int)] w λe w'=>e=.returned (.tuple #[.string (ofL [50]),.int .i64 0])/\Fr (λ_=>False) w w':=by
  refine(A9x 4611686018427387904 4611686018427387904 w (A2j 4611686018427387904 (by omega)) (by omega) (by omega)).mono ?_;rintro e w' ⟨D,f,d,_,_,_,b,c⟩;obtain⟨rfl,rfl⟩:=E8g d;have a:dgs 2=[50]:=by rw[A6a (by omega)];rfl
  rw[a]at b;exact⟨b,c⟩
 have:=C0n (by kernel_rfl) a (C6p 4611686018427387904 w (by omega) (by omega));simp at this;exact(C6n this).symm
theorem F5z {l:LU8} {t:Tk} {m:Nat} (w:World) (n:l.length<=1000) (hr:run t0 l=some t) (b:A8b t.st) (j:Calls Tryz.prog 22 #[.string (ofL l)] w λe w'=>e=.returned (.tuple #[.int .u64 (m:Int),.int .i64 0])/\Fr (λ_=>False) w w'):A3n t=(m,0):=by
 have g:Calls Tryz.prog 22 #[.string (ofL l)] w λe w'=>∃a,e=.returned a/\∃r,A8v t.D t.at r/\a=.tuple #[.int .u64 ((A2z t.neg r).1:Int),.int .i64 ((A2z t.neg r).2:Int)]:=by
  refine(B4j l w (by omega)).mono ?_;rintro e w' ⟨⟨c,_⟩,k⟩;obtain⟨r,d,f⟩:=c t hr b;exact⟨_,f,r,d,rfl⟩
 obtain⟨_,r,i,h⟩:=D0p (by kernel_rfl) g j;simp at h;rw[C0j b (C0m hr).1 i];exact Prod.ext (by omega) (by omega)
theorem F9n:Tok [49,46,48] [49] [48] [] [] false:=
 ⟨rfl,by intro c a;simp at a;subst a;decide,by intro c a;simp at a;subst a;decide,A4k,.inl ⟨rfl,rfl⟩,λ_=>rfl,by simp,by simp⟩
theorem F9p:A3u 10 (-1) 4607182418800017408:=by
 show Rnd (10*pP (-1)) (p10 1) 4607182418800017408
 unfold Rnd;decide+kernel
theorem F9q (w:World):A3n ⟨5,false,[1,0],1,0,false⟩=(4607182418800017408,0):=by
 refine F5z (l:=[49,46,48]) w (by decide) rfl (by unfold A8b;simp) ?_;refine B9m (m:=4607182418800017408) F9n (by decide) (by decide) (by omega) (λh=>by omega) (λ_=>?_) w;rw[D4g];exact F9p
theorem F9r:Tok [50,101,48] [50] [] [] [48] false:=
 ⟨rfl,by intro c a;simp at a;subst a;decide,A4k,by intro c a;simp at a;subst a;decide,.inl ⟨rfl,rfl⟩,λ_=>rfl,by simp,by simp⟩
theorem F9s (a fr:LU8):E0q (ofL a) (ofL fr) false (ofL [48])=0:=by
 unfold E0q;rw[D1d];simp[dv,num]
theorem F9t (w:World):A3n ⟨8,false,[2],1,0,false⟩=(4611686018427387904,0):=by
 refine F5z (l:=[50,101,48]) w (by decide) rfl (by unfold A8b;simp) ?_;refine B9m (m:=4611686018427387904) F9r (by decide) (by decide) (by omega) (λh=>by omega) (λ_=>?_) w;rw[F9s];exact E8f
def exL:LU8:=[123,34,98,34,58,91,49,46,48,44,50,101,48,93,44,34,97,34,58,34,92,117,48,48,52,49,34,125]
def exI:List It:=[⟨6,2,0,[]⟩,⟨4,0,0,[98]⟩,⟨5,2,0,[]⟩,⟨3,0,4607182418800017408,[]⟩,⟨3,0,4611686018427387904,[]⟩,⟨4,0,0,[97]⟩,⟨4,0,0,[65]⟩]
theorem D6j {inn:Nat} {r q:LU8} {t:Tk} {b:Nat} (h:A5n t0 r=.stop t q) (a:A3n t=(b,0)):A4v inn r=.ok 0 [⟨3,0,b,[]⟩] q:=by
 unfold A4v;rw[h];simp only;rw[a,if_neg (by simp)]
theorem F9u (w:World):B1g 2 exL=.ok 0 exI []:=by
 have c:∀f,rGo 2 (f+1) 2 .val [49,46,48,44,50,101,48,93,44,34,97,34,58,34,92,117,48,48,52,49,34,125]=.ok 0 [⟨3,0,4607182418800017408,[]⟩] [44,50,101,48,93,44,34,97,34,58,34,92,117,48,48,52,49,34,125]:=λf=>by
  show A4v 2 [49,46,48,44,50,101,48,93,44,34,97,34,58,34,92,117,48,48,52,49,34,125]=_
  exact D6j (t:=⟨5,false,[1,0],1,0,false⟩) rfl (F9q w)
 have d:∀f,rGo 2 (f+1) 2 .val [50,101,48,93,44,34,97,34,58,34,92,117,48,48,52,49,34,125]=.ok 0 [⟨3,0,4611686018427387904,[]⟩] [93,44,34,97,34,58,34,92,117,48,48,52,49,34,125]:=λf=>by
  show A4v 2 [50,101,48,93,44,34,97,34,58,34,92,117,48,48,52,49,34,125]=_
  exact D6j (t:=⟨8,false,[2],1,0,false⟩) rfl (F9t w)
 have j:∀f,rGo 2 (f+2) 2 (.valsGo 2 [⟨3,0,4607182418800017408,[]⟩]) [50,101,48,93,44,34,97,34,58,34,92,117,48,48,52,49,34,125]=.ok 2 [⟨3,0,4607182418800017408,[]⟩,⟨3,0,4611686018427387904,[]⟩] [44,34,97,34,58,34,92,117,48,48,52,49,34,125]:=λf=>by
  rw[rGo.eq_def];simp only;rw[d];rfl
 have i:∀f,rGo 2 (f+3) 2 (.valsGo 1 []) [49,46,48,44,50,101,48,93,44,34,97,34,58,34,92,117,48,48,52,49,34,125]=.ok 2 [⟨3,0,4607182418800017408,[]⟩,⟨3,0,4611686018427387904,[]⟩] [44,34,97,34,58,34,92,117,48,48,52,49,34,125]:=λf=>by
  rw[rGo.eq_def];simp only;rw[c];exact j f
 have b:∀f,rGo 2 (f+5) 1 .val [91,49,46,48,44,50,101,48,93,44,34,97,34,58,34,92,117,48,48,52,49,34,125]=.ok 0 [⟨5,2,0,[]⟩,⟨3,0,4607182418800017408,[]⟩,⟨3,0,4611686018427387904,[]⟩] [44,34,97,34,58,34,92,117,48,48,52,49,34,125]:=λf=>by
  show B7r 5 (rGo 2 (f+3) 2 (.valsGo 1 []) [49,46,48,44,50,101,48,93,44,34,97,34,58,34,92,117,48,48,52,49,34,125])=_
  rw[i];rfl
 have h:∀f,rGo 2 (f+6) 1 .pair [34,98,34,58,91,49,46,48,44,50,101,48,93,44,34,97,34,58,34,92,117,48,48,52,49,34,125]=.ok 0 [⟨4,0,0,[98]⟩,⟨5,2,0,[]⟩,⟨3,0,4607182418800017408,[]⟩,⟨3,0,4611686018427387904,[]⟩] [44,34,97,34,58,34,92,117,48,48,52,49,34,125]:=λf=>by
  show(match rGo 2 (f+5) 1 .val [91,49,46,48,44,50,101,48,93,44,34,97,34,58,34,92,117,48,48,52,49,34,125]with|.wrong e p2=>RV.wrong e p2|.ended l=>.ended l|.ok _ its p2=>.ok 0 (⟨4,0,0,[98]⟩::its) p2)=_
  rw[b]
 have p2:∀f,rGo 2 (f+7) 1 (.pairsGo 2 [⟨4,0,0,[98]⟩,⟨5,2,0,[]⟩,⟨3,0,4607182418800017408,[]⟩,⟨3,0,4611686018427387904,[]⟩]) [34,97,34,58,34,92,117,48,48,52,49,34,125]=.ok 2 [⟨4,0,0,[98]⟩,⟨5,2,0,[]⟩,⟨3,0,4607182418800017408,[]⟩,⟨3,0,4611686018427387904,[]⟩,⟨4,0,0,[97]⟩,⟨4,0,0,[65]⟩] []:=λf=>rfl
 have g:∀f,rGo 2 (f+8) 1 (.pairsGo 1 []) [34,98,34,58,91,49,46,48,44,50,101,48,93,44,34,97,34,58,34,92,117,48,48,52,49,34,125]=.ok 2 [⟨4,0,0,[98]⟩,⟨5,2,0,[]⟩,⟨3,0,4607182418800017408,[]⟩,⟨3,0,4611686018427387904,[]⟩,⟨4,0,0,[97]⟩,⟨4,0,0,[65]⟩] []:=λf=>by
  rw[rGo.eq_def];simp only;rw[h (f+1)];exact p2 f
 have a:rGo 2 (4*exL.length+1) 0 .val exL=.ok 0 exI []:=by
  show B7r 6 (rGo 2 (103+8) 1 (.pairsGo 1 []) [34,98,34,58,91,49,46,48,44,50,101,48,93,44,34,97,34,58,34,92,117,48,48,52,49,34,125])=_
  rw[g];rfl
 unfold B1g;rw[a];rfl
def exT:LU8:=[123,34,97,34,58,34,65,34,44,34,98,34,58,91,49,44,50,93,125]
theorem G4y (w:World) (T:List Im):wrD (-1) true 998 (B7f ⟨3,0,4607182418800017408,[]⟩::T)=[49]:=by
 show B3v (B7f ⟨3,0,4607182418800017408,[]⟩)=[49]
 exact D3h w
theorem G4z (w:World) (T:List Im):wrD (-1) true 998 (B7f ⟨3,0,4611686018427387904,[]⟩::T)=[50]:=by
 show B3v (B7f ⟨3,0,4611686018427387904,[]⟩)=[50]
 exact E0n w
theorem G3g (w:World):wrD (-1) true 999 (ims [⟨5,2,0,[]⟩,⟨3,0,4607182418800017408,[]⟩,⟨3,0,4611686018427387904,[]⟩,⟨4,0,0,[97]⟩,⟨4,0,0,[65]⟩])=[91,49,44,50,93]:=by
 have:wrD (-1) true 999 (ims [⟨5,2,0,[]⟩,⟨3,0,4607182418800017408,[]⟩,⟨3,0,4611686018427387904,[]⟩,⟨4,0,0,[97]⟩,⟨4,0,0,[65]⟩])=A7w (-1) 1 false [wrD (-1) true 998 (B7f ⟨3,0,4607182418800017408,[]⟩::ims [⟨3,0,4611686018427387904,[]⟩,⟨4,0,0,[97]⟩,⟨4,0,0,[65]⟩]),wrD (-1) true 998 (B7f ⟨3,0,4611686018427387904,[]⟩::ims [⟨4,0,0,[97]⟩,⟨4,0,0,[65]⟩])]:=rfl;rw[this,G4y w,G4z w];rfl
theorem G5a (w:World):wrD (-1) true 1000 (ims exI)=exT:=by
 have:wrD (-1) true 1000 (ims exI)=A7w (-1) 0 true [A7h (-1) [97]++wrD (-1) true 999 (ims [⟨4,0,0,[65]⟩]),A7h (-1) [98]++wrD (-1) true 999 (ims [⟨5,2,0,[]⟩,⟨3,0,4607182418800017408,[]⟩,⟨3,0,4611686018427387904,[]⟩,⟨4,0,0,[97]⟩,⟨4,0,0,[65]⟩])]:=rfl;rw[this,G3g w];rfl
theorem G3h (w:World):B7u 2 (-1) true exL=(exT,0,28):=by
 have hr:=B0w 2 exL;rw[F9u w]at hr;simp only at hr;unfold B7u;rw[if_neg (by decide),show(2:Int).toNat=2 from rfl,hr.2,if_neg (by simp)];simp only;rw[G5a w];rfl
theorem E8h (w:World) (c:Option Addr) (cap:Nat) (b:List (LU8)) (a indent:Int) (so:Bool) (h:TR w c b) (g:C0f w) (i:(A2v b).length<=1400000) (j:b.length<=10000000):
 Calls Tryz.prog 16 #[.slice c b.length cap,.int .i64 a,.int .i64 indent,.bool so] w λe w'=>e=.returned (.agg #[.string (ofL (B7u a indent so (A2v b)).1),.int .i64 (B7u a indent so (A2v b)).2.1,.int .i64 ((B7u a indent so (A2v b)).2.2:Int)])/\Fr (λ_=>False) w w':=by
 by_cases f:a<1\/1000<a\/indent< -1\/16<indent
 ·have:B7u a indent so (A2v b)=([],1,0):=by unfold B7u;rw[if_pos f]
  rw[this];exact F8v w _ a indent so f
 ·obtain⟨d,rfl⟩:∃d:Nat,a=d:=⟨a.toNat,by omega⟩
  exact G2w w c cap d b indent so h g (by omega) (by omega) (by omega) (by omega) i j
theorem F4k (w:World) (c:Option Addr) (cap:Nat) (b:List (LU8)) (a indent:Int) (so:Bool) (h:TR w c b) (g:(A2v b).length<=1400000) (i:b.length<=10000000):
 Calls Tryz.prog 19 #[.slice c b.length cap,.int .i64 a,.int .i64 indent,.bool so] w λe w'=>e=.returned (.agg #[.string (ofL (B7u a indent so (A2v b)).1),.int .i64 (B7u a indent so (A2v b)).2.1,.int .i64 ((B7u a indent so (A2v b)).2.2:Int)])/\Fr (λ_=>False) w w':=by
 by_cases f:a<1\/1000<a\/indent< -1\/16<indent
 ·have:B7u a indent so (A2v b)=([],1,0):=by unfold B7u;rw[if_pos f]
  rw[this];exact F4h w _ a indent so f
 ·obtain⟨d,rfl⟩:∃d:Nat,a=d:=⟨a.toNat,by omega⟩
  exact F9m w c cap d b indent so h (by omega) (by omega) (by omega) (by omega) g i
theorem G3i (w w0:World) (g:Nat) (b:C0f w) (a:TB w g ([[123,34,98,34,58,91,49,46,48,44,50,101,48,93,44,34,97,34],[58,34,92,117,48,48,52,49,34,125]]++[])):
 Calls Tryz.prog 16 #[.slice (some ⟨g,0,none⟩) 2 2,.int .i64 2,.int .i64 (-1),.bool true] w λe w'=>e=.returned (.agg #[.string ⟨#[123,34,97,34,58,34,65,34,44,34,98,34,58,91,49,44,50,93,125]⟩,.int .i64 0,.int .i64 28])/\Fr (λ_=>False) w w':=by
 have:=E8h w (some ⟨g,0,none⟩) 2 _ 2 (-1) true a.tr b (by decide) (by decide);rw[show A2v [[123,34,98,34,58,91,49,46,48,44,50,101,48,93,44,34,97,34],[58,34,92,117,48,48,52,49,34,125]]=exL from rfl,G3h w0]at this;exact this
theorem D3s (w:World) (pa:Option Addr) (cap:Nat) (b:List (LU8)) (a indent:Int) (so:Bool) (h:TR w pa b) (hT:C0f w) (hl:(A2v b).length<=1400000) (hn:b.length<=9000000):
 Calls Tryz.prog 5 #[.slice pa b.length cap,.int .i64 a,.int .i64 indent,.bool so] w λe w'=>e=.returned (.bool true)/\Fr (λ_=>False) w w':=by
 have HT:=hid (λwx (hf:Fr (λ_=>False) w wx)=>hT.fr hf id id);have D:=hid (λwx (hf:Fr (λ_=>False) w wx)=>E8d wx pa cap b (h.fr hf) hn);have i:=hid (λwx g (hf:Fr (λ_=>False) w wx) (hb:TB wx g (b++List.replicate 8 B3j))=>E8h wx (some ⟨g,0,none⟩) (b.length+8) b a indent so hb.tr (hT.fr hf id id) hl (by omega));have q:=hid (λwx (hf:Fr (λ_=>False) w wx)=>F4k wx pa cap b a indent so (h.fr hf) hl (by omega));have C:=hid (λwx g (hf:Fr (λ_=>False) w wx) (hg:w.heap.size<=g) (hb:TB wx g (b++List.replicate 8 B3j))=>E8e w wx g pa cap b h hf hg hb hn);clear h hT hl;obtain⟨A,hA⟩:∃A,B7u a indent so (A2v b)=A:=⟨_,rfl⟩;rw[hA]at i q;clear hA;obtain⟨T,E,At⟩:=A;simp only at i q;obtain⟨n,a6⟩:∃n,b.length=n:=⟨_,rfl⟩;rw[a6]at D i q C hn ⊢;have a7:((ByteArray.mk #[123,34,97,34,58,34,65,34,44,34,98,34,58,91,49,44,50,93,125]).toList==(ByteArray.mk #[123,34,97,34,58,34,65,34,44,34,98,34,58,91,49,44,50,93,125]).toList)=true:=beq_self_eq_true _;have a8:((ofL T).toList==(ofL T).toList)=true:=beq_self_eq_true _;go_enter Tryz.func5,Tryz.ntmps5
 go_wp2_with fail
 refine Calls.mono (E5t _) ?_;rintro e w1 ⟨rfl,U⟩;have x:=hid U;clear U
 go_wp2_with fail
 refine Calls.mono (G3i _ w _ (HT.out _ (x.alloc _)) (heap_alloc_new w1 _)) ?_;rintro e w2 ⟨rfl,V⟩;have P:=hid ((x.alloc _).trans V);clear V
 go_wp2_with fail
 obtain⟨W3,Z⟩:∃W3,w2.alloc (.cells #[.string ⟨#[123,34,97,34,58,34,65,34,44,34,98,34,58,91,49,44,50,93,125]⟩,.int .i64 0,.int .i64 28] 42)=W3:=⟨_,rfl⟩;have c:=hid (heap_alloc_new w2 (.cells #[.string ⟨#[123,34,97,34,58,34,65,34,44,34,98,34,58,91,49,44,50,93,125]⟩,.int .i64 0,.int .i64 28] 42));have f:=hid (P.alloc (.cells #[.string ⟨#[123,34,97,34,58,34,65,34,44,34,98,34,58,91,49,44,50,93,125]⟩,.int .i64 0,.int .i64 28] 42));rw[Z]at c f ⊢;generalize w2.heap.size=b1 at c ⊢;clear Z P x;refine Calls.mono (D.out _ f.out) ?_;rintro e w4 ⟨rfl,Y,F⟩;have s:=hid Y;have y:=hid (f.trans F);have J:=hid (F.heap c.out id);have HG:=hid (f.size);clear F Y;have v:=hid (show b1≠W3.heap.size fromλh=>Nat.lt_irrefl _ (h▸lt_of_block c.out));clear c;generalize W3.heap.size=g at s HG v ⊢;clear f D;have a9:¬((n:Int)<0):=by omega
 have b0:n<=n+8:=by omega
 go_wp2_with fail
 refine Calls.mono (i.out _ g y.out s.out) ?_;rintro e H ⟨rfl,t⟩;have j:=hid (s.fr t id);have K:=hid (t.heap J.out id);have Q:=hid (y.trans t);clear t s J y i
 go_wp2_with fail
 have S:=hid (show∀k,k=g->g<H.heap.size fromλ_ _=>lt_of_block j.out);have R:=hid (show b1≠g from v.out);obtain⟨W6,a0⟩:∃W6,H.alloc (.cells #[.string (ofL T),.int .i64 E,.int .i64 (At:Int)] 42)=W6:=⟨_,rfl⟩;have l:=hid (heap_alloc_new H (.cells #[.string (ofL T),.int .i64 E,.int .i64 (At:Int)] 42));have z:=hid (Q.alloc (.cells #[.string (ofL T),.int .i64 E,.int .i64 (At:Int)] 42));have p:=hid ((Fr.refl (λ_=>False) H).alloc (.cells #[.string (ofL T),.int .i64 E,.int .i64 (At:Int)] 42));have B:=hid (show H.heap.size≠g fromλh=>Nat.lt_irrefl _ (h▸S.out g rfl));rw[a0]at l z p ⊢;have L:=hid (p.heap K.out id);have u:=hid (j.fr p.out id);clear a0 p K j Q S;generalize H.heap.size=b2 at l B ⊢;refine Calls.mono (C.out _ g z.out HG.out u.out) ?_;rintro e I ⟨rfl,W,G⟩;have a3:=hid W;have M:=hid (G.heap L.out R.out);have m:=hid (G.heap l.out B.out);clear W G L l u z C R B HG v
 go_wp2_with fail
 have a5:=hid (a3.drew);have N:=hid (((Fr.refl (λ_=>False) I).drew).heap M.out id);have o:=hid (((Fr.refl (λ_=>False) I).drew).heap m.out id);have n0:I.cell? ⟨b1,0,none⟩=_:=A0a M.out rfl;have n1:I.cell? ⟨b2,0,none⟩=_:=A0a m.out rfl;have n2:I.cell? ⟨b2,1,none⟩=_:=A0a m.out rfl;have n3:I.cell? ⟨b2,2,none⟩=_:=A0a m.out rfl;have hE:(E==E)=true:=beq_self_eq_true _;have hA:((At:Int)==(At:Int))=true:=beq_self_eq_true _;have HX:=hid (λwx (hf:Fr (λ_=>False) w wx) (h1:wx.heap[b1]? =some (.cells #[.string ⟨#[123,34,97,34,58,34,65,34,44,34,98,34,58,91,49,44,50,93,125]⟩,.int .i64 0,.int .i64 28] 42 (0,0))) (h2:wx.heap[b2]? =some (.cells #[.string (ofL T),.int .i64 E,.int .i64 (At:Int)] 42 (0,0)))=>Calls.mono (q.out wx hf) (λe w' h=>And.intro h.1 (And.intro (hf.trans h.2) (And.intro (h.2.heap h1 id) (h.2.heap h2 id)))))
 go_region_held3 (λw'=>w'.cell? ⟨b1,0,none⟩=some (.string ⟨#[123,34,97,34,58,34,65,34,44,34,98,34,58,91,49,44,50,93,125]⟩)/\w'.cell? ⟨b2,0,none⟩=some (.string (ofL T))/\w'.cell? ⟨b2,1,none⟩=some (.int .i64 E)/\w'.cell? ⟨b2,2,none⟩=some (.int .i64 (At:Int))) (first|go_keep|exact⟨A0a N.out rfl,A0a o.out rfl,A0a o.out rfl,A0a o.out rfl⟩|exact⟨A0a O.out rfl,A0a d.out rfl,A0a d.out rfl,A0a d.out rfl⟩) ((go_at_call 19;refine Calls.mono (HX.out _ a5.out N.out o.out) ?_;rintro r w8 ⟨rfl,X,a1,a2⟩;have O:=hid a1;have d:=hid a2;have a4:=hid X;clear X a1 a2))
 all_goals
  go_wp2_with fail
  go_ret;exact⟨rfl,a4.out⟩
theorem F4m:ownKnob Tryz.prog.godebug=none:=by kernel_rfl
theorem E8i:laidOutB Tryz.prog=true:=by kernel_rfl
theorem E8j (s:ByteArray):ofL s.data.toList=s:=by
 cases s;rfl
theorem Tryz.cells9D:Tryz.prog.cellsOf 9=1:=by kernel_rfl
theorem E8k {H:Type} {enc:TypeId×Value->H} {w:World} {base:Nat} {b:Nat->Bool} {d:Bool} {c:Nat} {a:Addr} {y:DataW H×List MemPlace}
 (h:(w.cells? base a (Tryz.prog.cellsOf 9)).bind (DataW.trod enc Tryz.prog w base b d c 9)=some y):
 ∃s:LU8,w.cell? a=some (.string (ofL s))/\y.1=.lit (.string s):=by
 obtain⟨m,e,k⟩:=Option.bind_eq_some_iff.1 h;obtain⟨_,i,g⟩:=World.cells?_some e;rw[Tryz.cells9D]at i g;obtain⟨l,rfl⟩:=List.length_eq_one_iff.1 i;obtain⟨s,f,rfl,_⟩:=DataW.trod_string Tryz.underlying9 k;simp at f;subst f;have j:=g 0 (by omega);refine⟨s.data.toList,?_,by simp⟩;rw[E8j];simpa[Addr.add]using j
def G3p {H:Type} (y:DataW H×List MemPlace):LU8:=match y.1 with|.lit (.string m)=>m|_=>[]
theorem E8m {H:Type} {y:DataW H×List MemPlace} {s:LU8} (h:y.1=.lit (.string s)):G3p y=s:=by
 unfold G3p;rw[h]
theorem E0p {H:Type} (ys:List (DataW H×List MemPlace)) (b:∀y∈ys,∃s:LU8,y.1=.lit (.string s)):(A2v (ys.map G3p)).length+ys.length<=Rows.uptoBulkAll (ys.map (·.1)):=by
 induction ys with
 |nil=>simp[A2v,Rows.uptoBulkAll]
 |cons y ys ih=>
  have c:=ih (λz hz=>b z (by simp[hz]));obtain⟨s,a⟩:=b y (by simp);simp only[List.map_cons,E8m a,a,Rows.uptoBulkAll,Rows.uptoBulk,List.length_cons];simp only[A2v,List.flatten_cons,List.length_append]at c ⊢;omega
theorem C1e:Rows.laid_unicode_utf8_acceptRanges (H:=Unit)=Lib.acceptData:=rfl
theorem C4f:Rows.laid_unicode_utf8_first=Lib.firstData:=by kernel_rfl
theorem F9v {W:World} (h:laidMetH Tryz.prog Rows.formatsUptoRow.laid W):C0f W:=by
 have a:=Lib.laidMet.reads (P:=Tryz.prog) (l:=Rows.formatsUptoRow.laid) h (.head _);have b:=Lib.laidMet.reads (P:=Tryz.prog) (l:=Rows.formatsUptoRow.laid) h (.tail _ (.head _));rw[C1e]at a;rw[C4f]at b;exact utf8Tabs_of_readsT (U8Types.of196 Tryz.laysValid) ⟨by kernel_rfl,by kernel_rfl,by kernel_rfl,by kernel_rfl,by kernel_rfl,by kernel_rfl,by kernel_rfl⟩ b a
theorem B7v (H:Type) (enc:TypeId×Value->H) (W:World) (base:Nat) (args:Array Value) (M Y:List (DataW H)) (m:List MemPlace)
 (d:∀(j:Nat) t v,Tryz.f5.params[j]? =some t->args[j]? =some v->Value.okWide Tryz.prog W .any base t v)
 (hW:DataW.Whole enc Tryz.prog Tryz.f5.params.toList Rows.formatsSpec.vars false W args.toList M Y m) (hk:Rows.uptoSmall H (M++Y)=true) (hL:laidMetH Tryz.prog Rows.formatsUptoRow.laid W):
 Calls Tryz.prog 5 args W λe W'=>∃v,e=.returned v/\Rows.formatsSpec.post enc Tryz.prog Tryz.f5 false true false false W args v W':=by
 have hT:=F9v hL;have u:=hW;obtain⟨p,q,C,hV,rfl,a9,b0⟩:=hW;have hA:DataW.TrodAll enc Tryz.prog W 0 (λ_=>true) true Tryz.f5.params.toList args.toList M p:=C;rw[Tryz.params5]at hA d;obtain⟨v0,b2,V,a5,T,q0,Q,rfl,rfl,Z,r0⟩:=trodAll_cons hA;obtain⟨v1,b4,d1,a6,p1,q1,rfl,rfl,rfl,h1,r1⟩:=trodAll_cons r0;obtain⟨v2,b5,d2,a7,p2,q2,rfl,rfl,rfl,h2,r2⟩:=trodAll_cons r1;obtain⟨v3,b6,d3,a8,p3,q3,rfl,rfl,rfl,O,r3⟩:=trodAll_cons r2;obtain⟨rfl,rfl,rfl⟩:=trodAll_nil r3;obtain rfl:args=#[v0,v1,v2,v3]:=by cases args;simp_all
 obtain⟨rfl,rfl⟩:=trodVars_none hV;obtain⟨J,rfl,rfl,rfl,w1⟩:=open_int Tryz.underlying3 (d 1 3 v1 rfl rfl) h1;obtain⟨K,rfl,rfl,rfl,w2⟩:=open_int Tryz.underlying3 (d 2 3 v2 rfl rfl) h2;obtain⟨A,rfl,rfl,rfl⟩:=open_bool Tryz.underlying4 (d 3 4 v3 rfl rfl) O;obtain⟨I,n,cap,rfl⟩:=okWide_slice Tryz.underlying44 (d 0 44 v0 rfl rfl);have N:=Z;obtain⟨X,hf⟩:=Z;clear C;simp only[List.append_nil]at u hk;have F:∀x∈T,x.block<W.heap.size:=λx f=>by simpa using u.lt x f
 have o:∀(W':World),Below W.heap.size W W'->DataW.Trod enc Tryz.prog W' 0 (λb=>decide (b<W.heap.size)) true 44 (.slice I n cap) V T:=
  λW' hn=>Below.trod E8i (by kernel_rfl) (of_decide_eq_true (by kernel_rfl)) N hn F
 have k:Rows.uptoBulkAll [V,DataW.lit (H:=H) (.int .i64 J),.lit (.int .i64 K),.lit (.bool A)]<=1048576:=of_decide_eq_true hk;simp only[Rows.uptoBulkAll,Rows.uptoBulk]at k
 have g:∀B:List (LU8),B.length=n->TR W I B->n<=1048576->(A2v B).length<=1048576->
  Calls Tryz.prog 5 #[.slice I n cap,.int .i64 J,.int .i64 K,.bool A] W λe W'=>∃v,e=.returned v/\Rows.formatsSpec.post enc Tryz.prog Tryz.f5 false true false false W #[.slice I n cap,.int .i64 J,.int .i64 K,.bool A] v W':=by
  rintro B rfl P hn hj;refine(D3s W I cap B J K A P hT (by omega) (by omega)).mono λe W' ⟨he,hg⟩=>?_
  subst he
  exact⟨_,rfl,_,_,_,[],T,[],u,trodAll_cons_mk (shut_bool Tryz.underlying4 _) trodAll_mk0,by
   have hh:=trodAll_cons_mk (o W' hg.below) (trodAll_mk3 (shut_int Tryz.underlying3 w1) (shut_int Tryz.underlying3 w2) (shut_bool Tryz.underlying4 A));simp only[List.append_nil]at hh
   exact hh,rfl,hg.below.frame _,λh=>by cases h⟩
 rcases DataW.trod_slice Tryz.underlying44 hf with⟨l,f⟩|⟨a,a3,U,c,rest,n',_,l,f,_,hl,hm,E,D,b1,_⟩
 ·simp[Value.cells]at l
  obtain⟨rfl,rfl,rfl⟩:=l;exact g [] rfl (λh=>absurd rfl h) (by omega) (by simp[A2v])
 ·simp[Value.cells]at l
  obtain⟨rfl,rfl,rfl⟩:=l;simp only[Prod.mk.injEq]at f;obtain⟨rfl,rfl⟩:=f
  have r:∀(i:Nat) (y:DataW H×List MemPlace),(W.cells? 0 (a.add (i*Tryz.prog.cellsOf 9)) (Tryz.prog.cellsOf 9)).bind (DataW.trod enc Tryz.prog W 0 (λx=>true) true n' 9)=some y->∃s:LU8,W.cell? (a.add i)=some (.string (ofL s))/\y.1=.lit (.string s):=by
   intro i y O;obtain⟨s,L,G⟩:=E8k O;rw[Tryz.cells9D,Nat.mul_one]at L;exact⟨s,L,G⟩
  have hE:∀y∈c,∃s:LU8,y.1=.lit (.string s):=λy z=>by
   obtain⟨i,hi⟩:=List.getElem?_of_mem z;have w:i<n:=by have:=(List.getElem?_eq_some_iff.1 hi).1;omega
   obtain⟨s,_,G⟩:=r i y ((D i w).trans hi);exact⟨s,G⟩
  have e1:=E0p c hE;simp only[Rows.uptoBulk]at k;refine g (c.map G3p) (by simpa using E) ?_ (by omega) (by omega);intro R
  have a0:0<n:=by
   rcases Nat.eq_zero_or_pos n with h|h
   ·exfalso;apply R;rw[List.map_eq_nil_iff];exact List.eq_nil_of_length_eq_zero (by omega)
   ·exact h
  refine⟨a,rfl,?_,λi x f=>?_⟩
  ·obtain⟨b,S,a4⟩:=a
   refine F (.cell b S) (List.mem_append.2 (.inl (MemPlace.mem_row.2 ⟨0,?_,by simp⟩)));rw[Tryz.cells9D];omega
  ·rw[List.getElem?_map]at f
   cases z:c[i]? with
   |none=>rw[z]at f;cases f
   |some y=>
    rw[z]at f;simp at f;subst f;have w:i<n:=by have:=(List.getElem?_eq_some_iff.1 z).1;omega
    obtain⟨s,L,G⟩:=r i y ((D i w).trans z);rw[E8m G];exact L
noncomputable def B5n (os:Os):World:=
 let w0:=World.holding Tryz.prog os ⟨#[],#[],[]⟩
 let put (h:Array Obj) (g:Nat) (cs:Array Value):Array Obj:=h.modify g λ
  |.cells _ t frozen=>.cells cs t frozen
  |o=>o
 let h1:=put w0.heap 0 (Lib.firstTab.map λz=>Value.int .u8 z).toArray
 let h2:=put h1 1 ((List.range 16).flatMap λi=>[Value.int .u8 (Lib.accLo i),Value.int .u8 (Lib.accHi i)]).toArray
 {w0 with heap:=h2}
theorem E8n:Rows.formatsUptoRow.laid=[("unicode/utf8.acceptRanges",Lib.acceptData),("unicode/utf8.first",Lib.firstData)]:=by
 show[("unicode/utf8.acceptRanges",Rows.laid_unicode_utf8_acceptRanges),("unicode/utf8.first",Rows.laid_unicode_utf8_first)]=_
 rw[C1e,C4f]
theorem F4n (a:Os) (args:Array Value):laidMet Tryz.prog Rows.formatsUptoRow.laid ((B5n a).forCall (λ_ _=>0) ⟨#[],args,[]⟩).memory:=by
 rw[E8n];exact(LaidIn.of_run (l:=[("unicode/utf8.acceptRanges",Lib.acceptData),("unicode/utf8.first",Lib.firstData)]) [1,0] 8 (by kernel_rfl) (by kernel_rfl) (by kernel_rfl) (by kernel_rfl)).met
theorem C1f (b:Os) {H:Type} (enc:TypeId×Value->H):
 (Rows.OpenSpec.upto Rows.formatsSpec).preRow enc Tryz.prog Tryz.f5 Rows.formatsUptoRow.domain false Rows.formatsUptoRow.laid ((B5n b).forCall (λ_ _=>0) ⟨#[],#[.slice none 0 0,.int .i64 0,.int .i64 0,.bool false],[]⟩).memory #[.slice none 0 0,.int .i64 0,.int .i64 0,.bool false]:=by
 have c:(DataW.whole enc Tryz.prog ((B5n b).forCall (λ_ _=>0) ⟨#[],#[.slice none 0 0,.int .i64 0,.int .i64 0,.bool false],[]⟩).memory Tryz.f5.params.toList Rows.formatsSpec.vars false #[Value.slice none 0 0,.int .i64 0,.int .i64 0,.bool false].toList 8).map (λx=>(x.1,x.2.1))=
  some ([.nil,.lit (.int .i64 0),.lit (.int .i64 0),.lit (.bool false)],[]):=by kernel_rfl
 obtain⟨⟨e,f,g⟩,d,a⟩:=Option.map_eq_some_iff.1 c;simp only[Prod.mk.injEq]at a;obtain⟨rfl,rfl⟩:=a;exact OpenSpec.preRow_of_cond 8 d (by kernel_rfl) (λk hk=>by cases hk;kernel_rfl) (by kernel_rfl) (F4n b _)
theorem C2m (e:Os) (a:e.Started) (H:Type) (enc:TypeId×Value->H) (F:Stop.Interp):
 ReturnsInHanded {} Tryz.checked e 5 .any ((Rows.OpenSpec.upto Rows.formatsSpec).preRow enc Tryz.prog Tryz.f5 Rows.formatsUptoRow.domain false Rows.formatsUptoRow.laid) (((Rows.OpenSpec.upto Rows.formatsSpec).at F).post enc Tryz.prog Tryz.f5 false true false false):=by
 refine returnsInHanded_of_row (C:=Tryz.checked) (s:=Rows.OpenSpec.upto Rows.formatsSpec) F4m a (by kernel_rfl) Tryz.func5
  (witness_row_atRef (enc:=enc) (C:=Tryz.checked) false (B5n e) #[.slice none 0 0,.int .i64 0,.int .i64 0,.bool false] rfl (by kernel_rfl) (by kernel_rfl) (by kernel_rfl) (C1f e enc)) ?_
 intro W base args f g b d i _ c _ h _ _;exact B7v H enc W base args f g b d i (c _ rfl) h
theorem C7g {P:Program} {m:Machine} {w:World} {t:Trace} (h:aloneAtReturn P m w t):leavingAtReturn P m w t:=⟨h.2.1,onlyLeaving_of_quiet h.1,h.2.2⟩
theorem E8p {a:Assume} {st:Option Stop.Interp} {C:Checked} {e:Os} {f:FuncId} {r:Reach} {ok:Program->World->Reach->Nat->FuncId->Input->Prop} {Pre:World->Array Value->Prop} {Post:World->Array Value->Value->World->Prop} {A B:Machine->World->Trace->Prop} {d:Machine->Prop}
 (c:∀m w t,A m w t->B m w t) (h:ReturnsInOpen a st C e f r ok Pre Post A d):ReturnsInOpen a st C e f r ok Pre Post B d:=by
 obtain⟨g,k,l,o,p⟩:=h;refine⟨g,k,l,o,λw tape i hf=>?_⟩;obtain⟨n,v,w',q,s,u,x,⟨j,b,z,D,E⟩,y⟩:=p w tape i hf;exact⟨n,v,w',q,s,u,x,⟨j,b,z,D,c _ _ _ E⟩,y⟩
def F4p:OpenClaim:={Rows.formatsUptoRow with leaving:=false}
theorem D3t:F4p.holds Tryz.pinned (Rows.OpenSpec.upto Rows.formatsSpec):=
 OpenClaim.holds_of_cond 5 Tryz.f5 rfl rfl rfl rfl rfl rfl rfl ⟨rfl,rfl,rfl,rfl,rfl⟩ rfl rfl rfl rfl rfl (by kernel_rfl) Tryz.func5 (by kernel_rfl)
  (of_decide_eq_true (by kernel_rfl)) (by unfold Func.isWrapper;first|(rw[if_pos (by decide+kernel)];kernel_rfl)|(rw[if_neg (by decide+kernel)];exact⟨rfl,rfl⟩))
  (λos started H enc _ F=>by rw[OpenClaim.pre_eq_preRow];exact C2m os started H enc F)
theorem D0u:Rows.FormatsUptoSaid:=by
 obtain⟨N,r,s,u,v,x,y,z,f,p,B,C,D,E,G,I,J,K,M,b,c,d,e,g,h,i,j,k,l,n,o,L,A,a⟩:=D3t;refine⟨by kernel_rfl,r,s,u,v,x,y,z,f,p,B,C,D,E,G,I,J,K,M,b,c,d,e,g,h,i,j,k,l,n,o,L,A,λos st q H enc inj=>?_⟩;have hr:∀F,ReturnsInOpen _ _ _ _ _ _ _ _ _ (aloneAtReturn Tryz.pinned.checked.prog) _:=a os st q H enc inj
 exactλF=>E8p (λm w t=>C7g) (hr F)
theorem C7h (f:FuncId) (a:Func) (c:Tryz.pinned.checked.prog.funcNamed "decant/decantlaw.Formats" =some f) (b:Tryz.pinned.checked.prog.funcs[f]? =some a):
 true=Tryz.pinned.checked.prog.looks []/\∀(j:Nat) t,a.params[j]? =some t->Tryz.pinned.checked.prog.wantsStandIn t=false:=by
 obtain rfl:f=5:=Option.some.inj ((show Tryz.prog.funcNamed "decant/decantlaw.Formats" =some 5 by kernel_rfl).symm.trans c) |>.symm;obtain rfl:a=Tryz.f5:=(Option.some.inj (Tryz.func5.symm.trans b)).symm;refine⟨by kernel_rfl,λj t ht=>?_⟩;rw[Tryz.params5]at ht;have d:t=44\/t=3\/t=3\/t=4:=by simpa using Array.mem_of_getElem? ht
 rcases d with rfl|rfl|rfl|rfl
 ·exact(show Tryz.prog.wantsStandIn 44=false by kernel_rfl)
 ·exact(show Tryz.prog.wantsStandIn 3=false by kernel_rfl)
 ·exact(show Tryz.prog.wantsStandIn 3=false by kernel_rfl)
 ·exact(show Tryz.prog.wantsStandIn 4=false by kernel_rfl)
theorem formats_card:Rows.FormatsUptoCardSaid:=by
 refine⟨?_,?_,?_,?_,?_⟩
 ·exact Claim7.tied_new_at .later [.data,.pinned] true (Claim7.new_of_sixth D0u Rows.formatsUptoCard.stood.harness true rfl ⟨rfl,rfl⟩ (by kernel_rfl) (by kernel_rfl) C7h) (by kernel_rfl)
 ·intro D a
  have a:D∈([]:List (List PathCond)):=a;simp at a
 ·exact formatsUpto_row_tie
 ·intro h
  have h:false=true:=h;cases h
 ·kernel_rfl
#print axioms formats_card
end Go.Proofs.YtmkkibaacclhnaaGreatDoor
