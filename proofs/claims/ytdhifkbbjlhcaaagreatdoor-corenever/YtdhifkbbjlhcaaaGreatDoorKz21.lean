import Derived.Test.YtdhifkbbjlhcaaaGreatDoorChecked
import Derived.WalkSpells
import Derived.WalkLawsBesides
import Derived.Deep.QuietTactic
import Derived.BigQuiet
import Derived.RowKit3
import Derived.Deep.DeepAppendWide
import Derived.Test.YtdhifkbbjlhcaaaGreatDoorKz20
import Derived.Test.YtdhifkbbjlhcaaaGreatDoorKz4
set_option maxRecDepth 100000
set_option maxHeartbeats 4000000
set_option linter.defProp false
namespace Go.Proofs.YtdhifkbbjlhcaaaGreatDoor
open Go.Proofs.Tryz
variable {B c j k:Nat} {W w:ay} {a free n t:Int} {ao:Option Addr} {cs lb:Array Value} {v:Value}
namespace Pq
open Go.RowKit
namespace Pr
structure Rn where
 nd:Int
 en:Int
def qX (r:Rn):Bool:=decide (1<=r.nd)&&decide (r.nd<=256)
def okF (free:Int):Bool:=decide (0<=free)&&decide (free<=256)
def right (free:Int) (l:List Rn):Bool:=okF free&&l.all qX
def pQ (free:Int):List Rn->Int->Int
 | [],_=>free
 | r::l,t=>pQ (if r.en<=t then free+r.nd else free) l t
def iY (best:Option Int):List Rn->Int->Option Int
 | [],_=>best
 | r::l,t=>iY (if t<r.en/\(∀b,best=some b->r.en<b)then some r.en else best) l t
def UE {l:List Rn} {r:Rn} (h:l[k]?=some r):(l.drop k).all qX=(qX r&&(l.drop (k+1)).all qX):=by
 grind[tu]
def Yb {l:List Rn} {r:Rn} (h:l[k]?=some r):l.drop k=r::l.drop (k+1):=by
 grind[tu]
end Pr
open Pr
def eO (W:ay) (ao:Option Addr) (l:List Rn):Prop:=∃g o,(0<l.length->ao=some ⟨g,o,none⟩)/\∀k r,l[k]?=some r->W.cell? ⟨g,o+k*2,none⟩=some (J r.nd)/\W.cell? ⟨g,o+k*2+1,none⟩=some (J r.en)
theorem eO.below {W W':ay} {l:List Rn} (h:eO W ao l) (b:Z W W'):eO W' ao l:=by
 obtain⟨g,o,h1,h2⟩:=h;exact⟨g,o,h1,fun k r hr=>⟨(b.cell (aU W _ (h2 k r hr).1)).trans (h2 k r hr).1,(b.cell (aU W _ (h2 k r hr).2)).trans (h2 k r hr).2⟩⟩
def wK {l:List Rn} (hA:eO w ao l) (hn:l.length*16<=140737488355328) (free:Int):
  Calls prog 68 #[J free,.slice ao l.length c] w fun e w'=>e=.returned (.bool (right free l))/\Z w w':=by
 have⟨q,hq⟩:=aZ l.length;unfold right;by_cases h1:free<0
 ·exact aon
 by_cases h2:256<free
 ·exact aon
 have hf:okF free=true:=by simp[okF];omega
 obtain⟨g,o,hg,hc⟩:=hA;rw[hf,rO,hq];rw[hq]at hg hn;go_enter func68,ntmps68;go_wp2;go_loopg [5] q (fun gk p wr=>∃j:Nat,j+gk=q/\p=J j/\w=wr/\l.all qX=(l.drop j).all qX)
 case atStart=>exact⟨0,by omega,rfl,rfl,by simp⟩
 case round=>
  obtain⟨j,hj,rfl,rfl,hinv⟩:=hrel;by_cases hlt:j<q
  ·obtain ⟨r,hr⟩:∃r,l[j]?=some r:=⟨_,aY ak⟩;obtain rfl:=hg ak;obtain⟨c1,_⟩:=hc j r hr;rw[UE hr]at hinv;clear hc hg hr;by_cases a1:r.nd<1
   ·exact an1
   ·by_cases a2:256<r.nd
    ·exact an1
    ·have e:qX r=true:=by simp[qX];omega
     rw[e,rO]at hinv;have HI:Hid _:=hinv;clear hinv;exact aox
  ·obtain rfl:j=q:=ak;have e:Hid (l.all qX=true):=(by rw[hinv,vY ak];exact rfl);clear hinv;go_wp2;go_ret;exact⟨by rw[e.out];rfl,aI _ _⟩
def alE {l:List Rn} {r:Rn} (t:Int) (h:l[j]?=some r):pQ free (l.drop j) t=pQ (if r.en<=t then free+r.nd else free) (l.drop (j+1)) t:=by
 rw[Yb h];rfl
def ag4 {l:List Rn} (hA:eO w ao l) (hn:l.length*16<=140737488355328) (free t:Int) (h0:0<=free) (h1:free<=256) (hok:l.all qX=true):
  Calls prog 121 #[J free,.slice ao l.length c,J t] w fun e w'=>e=.returned (J (pQ free l t))/\Z w w':=by
 have⟨q,hq⟩:=aZ l.length;obtain⟨g,o,hg,hc⟩:=hA;rw[hq];rw[hq]at hg hn;go_enter func121,ntmps121;go_wp2;go_loopg [7,8] q (fun gk p i wr=>∃(j:Nat) (x:Int),j+gk=q/\p=J x/\i=J j/\w=wr/\0<=x/\x<=256*(j+1)/\pQ free l t=pQ x (l.drop j) t)
 case atStart=>exact⟨0,free,by omega,rfl,rfl,rfl,h0,by omega,by simp⟩
 case round=>
  obtain⟨j,x,hj,rfl,rfl,rfl,x0,x1,hinv⟩:=hrel;by_cases hlt:j<q
  ·obtain ⟨r,hr⟩:∃r,l[j]?=some r:=⟨_,aY ak⟩;obtain rfl:=hg ak;have⟨c1,c2⟩:=hc j r hr;have hokr:=vC.1 hok r (dW hr);obtain⟨o1,o2⟩:1<=r.nd/\r.nd<=256:=(by simpa [qX]using hokr);rw[alE t hr]at hinv;clear hc hg hr hokr;by_cases a1:r.en<=t
   ·rw[aJ a1]at hinv;have HI:Hid _:=hinv;clear hinv;go_wp2;go_roundg (q - (j+1))
    case measure=>omega
    case rel=>exact⟨j+1,x+r.nd,by omega,rfl,rfl,rfl,by omega,by omega,HI.out⟩
   ·rw[au a1]at hinv;have HI:Hid _:=hinv;clear hinv;go_wp2;go_roundg (q - (j+1))
    case measure=>omega
    case rel=>exact⟨j+1,x,by omega,rfl,rfl,rfl,by omega,by omega,HI.out⟩
  ·obtain rfl:j=q:=ak;have e:Hid (pQ free l t=x):=(by rw[hinv,vY ak];exact rfl);clear hinv;go_wp2;go_ret;exact⟨by rw[e.out];rfl,aI _ _⟩
def acf {best:Option Int} {l:List Rn} {r:Rn} (t:Int) (h:l[j]?=some r):iY best (l.drop j) t=iY (if t<r.en/\(∀b,best=some b->r.en<b)then some r.en else best) (l.drop (j+1)) t:=by
 rw[Yb h];rfl
def ag5 (o:Option Int):Value:=.tuple #[J (o.getD 0),.bool o.isSome]
def ag6 {l:List Rn} (hA:eO w ao l) (hn:l.length*16<=140737488355328) (t:Int):
  Calls prog 122 #[.slice ao l.length c,J t] w fun e w'=>e=.returned (ag5 (iY none l t))/\Z w w':=by
 have⟨q,hq⟩:=aZ l.length;obtain⟨g,o,hg,hc⟩:=hA;rw[hq];rw[hq]at hg hn;go_enter func122,ntmps122;go_wp2;go_loopg [6,7,8] q (fun gk p b i wr=>∃(j:Nat) (x:Option Int),j+gk=q/\p=J (x.getD 0)/\b=.bool x.isSome/\i=J j/\w=wr/\iY none l t=iY x (l.drop j) t)
 case atStart=>exact⟨0,none,by omega,rfl,rfl,rfl,rfl,by simp⟩
 case round=>
  obtain⟨j,x,hj,rfl,rfl,rfl,rfl,hinv⟩:=hrel;by_cases hlt:j<q
  ·obtain ⟨r,hr⟩:∃r,l[j]?=some r:=⟨_,aY ak⟩;obtain rfl:=hg ak;have⟨c1,c2⟩:=hc j r hr;rw[acf t hr]at hinv;clear hc hg hr c1;by_cases a1:t<r.en
   ·cases x with
    | none=>rw[aJ ⟨a1,fun b hb=>by cases hb⟩]at hinv;exact anX
    | some b=>
     simp only[pW,Ck]at *;by_cases a2:r.en<b
     ·rw[aJ ⟨a1,fun b' hb=>by cases hb;exact a2⟩]at hinv
      exact anX
     ·rw[au (fun h=>a2 (h.2 b rfl))]at hinv;have HI:Hid _:=hinv;clear hinv;go_wp2;go_roundg (q - (j+1))
      case measure=>omega
      case rel=>exact⟨j+1,some b,by omega,rfl,rfl,rfl,rfl,HI.out⟩
   ·rw[au (fun h=>a1 h.1)]at hinv;have HI:Hid _:=hinv;clear hinv;go_wp2;go_roundg (q - (j+1))
    case measure=>omega
    case rel=>exact⟨j+1,x,by omega,rfl,rfl,rfl,rfl,HI.out⟩
  ·obtain rfl:j=q:=ak;have e:iY none l t=x:=(by rw[hinv,vY ak];rfl);go_wp2;go_ret2
   exact⟨by rw[e];rfl,aI _ _⟩
end Pq
namespace Pq.Pr
def aal (l:List Rn) (t:Int):∀best:Option Int,(∀b,best=some b->t<b)->
  (iY best l t=none->best=none/\∀r∈l,r.en<=t)/\
  (∀n,iY best l t=some n->t<n/\(best=some n\/∃r∈l,r.en=n)/\(∀b,best=some b->n<=b)/\∀r∈l,t<r.en->n<=r.en):=by
 induction l with
 | nil=>grind[iY]
 | cons r l ih=>grind[iY]
def OC {l:List Rn} (h:iY none l t=none):∀r∈l,r.en<=t:=((aal l t none (fun b hb=>by grind)).1 h).2
theorem fB {l:List Rn} (h:iY none l t=some n):t<n/\(∃r∈l,r.en=n)/\∀r∈l,t<r.en->n<=r.en:=by
 obtain⟨a,b,_,d⟩:=(aal l t none (fun b hb=>by grind)).2 n h;grind
def cnt (l:List Rn) (t:Int):Nat:=(l.filter fun r=>decide (t<r.en)).length
theorem ag7 (l:List Rn) (t:Int):cnt l t<=l.length:=SI _ _
def cnt_mono (l:List Rn) (h:t<=n):cnt l n<=cnt l t:=by
 unfold cnt;induction l with
 | nil=>grind
 | cons r l ih=>grind
def cnt_lt {l:List Rn} (h:t<n) (hr:∃r∈l,r.en=n):cnt l n<cnt l t:=by
 induction l with
 | nil=>grind
 | cons r l ih=>have hm:=cnt_mono l (Int.le_of_lt h);grind[cnt]
structure Stp where
 at_:Int
 fr:Int
def iP (free:Int) (l:List Rn):Nat->Int->List Stp
 | 0,_=> []
 | k+1,t=>match iY none l t with
  | none=> []
  | some n=>⟨n,pQ free l n⟩::iP free l k n
def Ak (free:Int) (l:List Rn) (t:Int):List Stp:=iP free l (cnt l t) t
def fC (now free:Int) (l:List Rn):List Stp:=if right free l then⟨now,pQ free l now⟩::Ak free l now else []
theorem ag8 (free:Int) (l:List Rn):∀(k:Nat) (t:Int) (k':Nat),cnt l t<=k->cnt l t<=k'->iP free l k t=iP free l k' t:=by
 intro k;induction k with
 | zero=>
  intro t k' h _
  cases hn:iY none l t with
  | none=>cases k' with
   | zero=>rfl
   | succ k'=>simp[iP,hn]
  | some n=>have:=cnt_lt (fB hn).1 (fB hn).2.1;omega
 | succ k ih=>
  intro t k' h h'
  cases hn:iY none l t with
  | none=>cases k' with
   | zero=>grind
   | succ k'=>simp[iP,hn]
  | some n=>
   have hlt:=cnt_lt (fB hn).1 (fB hn).2.1
   cases k' with
   | zero=>omega
   | succ k'=>grind[iP]
theorem OD {l:List Rn} (h:iY none l t=none):Ak free l t= []:=by
 unfold Ak
 cases hc:cnt l t with
 | zero=>rfl
 | succ k=>simp[iP,h]
theorem OE {l:List Rn} (h:iY none l t=some n):Ak free l t=⟨n,pQ free l n⟩::Ak free l n:=by
 have hlt:=cnt_lt (fB h).1 (fB h).2.1;obtain⟨k,hk⟩:∃k,cnt l t=k+1:=⟨cnt l t - 1,by omega⟩;grind[Ak,iP,ag8]
theorem ag9 (free:Int) (l:List Rn) (t:Int):(Ak free l t).length<=cnt l t:=by
 unfold Ak;have:∀(k:Nat) (t:Int),(iP free l k t).length<=k:=by
  intro k;induction k with
  | zero=>grind[iP]
  | succ k ih=>grind[iP]
 grind
def acg (now free:Int) (l:List Rn):(fC now free l).length<=l.length+1:=by
 grind[fC,ag9,ag7]
end Pq.Pr
namespace Pq
open Go.RowKit Pr
def yG:List Stp->List Value
 | []=> []
 | s::l=>J s.at_::J s.fr::yG l
def ach (a b:List Stp):yG (a++b)=yG a++yG b:=by
 induction a with
 | nil=>rfl
 | cons s l ih=>simp[yG,ih]
def mJ (w:ay) (l:List Value) (t:TypeId):∀j u,l[j]?=some u->(w.alloc (.cells l.toArray t)).cell? ((⟨w.heap.size,0,none⟩:Addr).add j)=some u:=by
 grind[Addr.add,World.cell?,aK]
def alF (w:ay) (s:Stp) (B:Nat) (hB:B<=w.heap.size):(w.alloc (.cells #[J s.at_,J s.fr] 113)).ownsRow B 113 2 (.slice (some ⟨w.heap.size,0,none⟩) 1 1) 1 (yG [s]):=
 ⟨rfl,.inr ⟨w.heap.size,1,#[J s.at_,J s.fr],rfl,hB,aK w _,by omega,by decide,rfl,rfl⟩⟩
theorem eG {w w1:ay} {B n:Nat} {vs:List Value} (h:w.ownsRow B 113 2 v n vs) (b:Z w w1):w1.ownsRow B 113 2 v n vs:=by
 exact an2
def Tryz.aqu:(prog.info? 113).map (fun i=>(i.zero,i.size,i.bytes))=some (some (.agg #[J 0,J 0]),2,16):=aF
def wH {w w1 w2:ay} {vs:List Value} {n B:Nat} (h:Z w w1) (hr:w1.ownsRow B 113 2 v n vs) (hB:w.heap.size<=B) (hg:w1.grownBy w2 v.ownBlock):Z w w2:=
 h.grown hg h.size (fun k e=>by have:=(hr.lt k e).1;omega)
def Ba {l:List Rn} (hA:eO w ao l) (hn:l.length*16<=140737488355328) (now free:Int):
  Calls prog 69 #[J now,J free,.slice ao l.length c] w fun e w'=>∃v,e=.returned v/\w'.ownsRow w.heap.size 113 2 v (fC now free l).length (yG (fC now free l))/\Z w w':=by
 by_cases hr:right free l=true
 ·have⟨i0,hi0,hz0,hz1,hz2⟩:=fA Tryz.aqu;have hst:fC now free l=⟨now,pQ free l now⟩::Ak free l now:=by unfold fC;rw[aJ hr]
  go_enter func69,ntmps69;go_wp2_with fail
  refine(wK hA ak free).mono ?_;rw[hr];rintro e w1 ⟨rfl,b1⟩;obtain⟨hf,hok⟩:okF free=true/\l.all qX=true:=by simpa [right]using hr
  obtain⟨f0,f1⟩:0<=free/\free<=256:=by simpa [okF]using hf
  go_wp2_with fail
  refine(ag4 (hA.below b1) ak free now f0 f1 hok).mono ?_;rintro e w2 ⟨rfl,b2⟩;have bb:=b1.trans (b2.mono b1.size);have z2:=bb.size;have HST:Hid _:=hst;clear hst hf hr;go_wp2_with fail
  go_loopg [7,8] (cnt l now) (fun gk p i wr=>∃(v:Value) (xs:List Stp) (t:Int),gk=cnt l t/\p=v/\i=J t/\wr.ownsRow w.heap.size 113 2 v xs.length (yG xs)/\Z w wr/\fC now free l=xs++Ak free l t/\xs.length+cnt l t<=l.length+1)
  case atStart=>refine⟨_,[⟨now,pQ free l now⟩],now,rfl,rfl,rfl,alF w2 ⟨now,pQ free l now⟩ _ z2,bb.alloc z2 _,HST.out,?_⟩;have:=ag7 l now;simp;omega
  case round=>
   obtain⟨v,xs,t,hgk,hp,rfl,hrow,hbw,hinv,hlen⟩:=hrel;subst hp;go_wp2_with fail
   refine(ag6 (hA.below hbw) ak t).mono ?_
   cases hnx:iY none l t with
   | none=>rintro e w3 ⟨rfl,b3⟩;unfold ag5;have HI:Hid _:=hinv;clear hinv;go_wp2;go_ret;have e1:=HI.out;rw[OD hnx,vW]at e1;rw[e1];exact⟨_,rfl,eG hrow b3,hbw.trans (b3.mono hbw.size)⟩
   | some nn=>
    rintro e w3 ⟨rfl,b3⟩;unfold ag5;simp only[pW,Ck];have b03:=hbw.trans (b3.mono hbw.size);have hlt:=cnt_lt (fB hnx).1 (fB hnx).2.1;rw[OE hnx]at hinv;have HI:Hid _:=hinv;clear hinv;go_wp2_with fail
    refine(ag4 (hA.below b03) ak free nn f0 f1 hok).mono ?_;rintro e w4 ⟨rfl,b4⟩;have b04:=b03.trans (b4.mono b03.size);have hrow4:=eG (eG hrow b3) b4;have hz4:=b04.size;go_wp2_with (first
     | (at_builtin;refine wpList_append_own_wide _ rfl (.tmp 33) (.tmp 40) 110 rfl w.heap.size 113 i0 _ 2 16 underlying110 hi0 hz0 hz1 hz2 rfl aT _ _ _ rfl (hrow4.alloc _) ⟨_,0,none⟩ 1 1 [J nn,J (pQ free l nn)] rfl rfl (mJ _ _ _) (fun u hu=>by simp at hu;rcases hu with rfl | rfl<;>rfl) (bM (m:=35184372088832) ak aT) ak fE ?_;intro v' w5 hown hgr _))
    go_roundg (cnt l nn)
    case measure=>omega
    case rel=>
     refine⟨v',xs++ [⟨nn,pQ free l nn⟩],nn,rfl,rfl,rfl,?_,?_,?_,?_⟩
     ·rw[ach,tC];exact hown
     ·exact wH (b04.alloc hz4 _) (hrow4.alloc _) (aC _) hgr
     ·rw[HI.out];simp
     ·simp;omega
 ·have hst:fC now free l= []:=by unfold fC;rw[au hr]
  have HST:Hid _:=hst;clear hst;go_enter func69,ntmps69;go_wp2_with fail
  refine(wK hA ak free).mono ?_;rw[show right free l=false by simpa using hr];rintro e w1 ⟨rfl,b1⟩;go_wp2;go_ret;rw[HST.out];exact⟨_,rfl,l8 _ _ _ _,b1⟩
end Pq
namespace Pq
open Go.RowKit Pr
namespace Pr
def kN (need:Int):List Stp->Option Stp
 | []=>none
 | s::l=>if need<=s.fr then some s else kN need l
def aX (now free:Int) (l:List Rn) (need:Int):Option Stp:=if right free l&&decide (0<=need)then kN need (fC now free l)else none
def SX (need:Int) (o:Option Stp):Value:=match o with
 | none=>.tuple #[J 0,J 0,.bool false]
 | some s=>.tuple #[J s.at_,J (s.fr - need),.bool true]
theorem KY (l:List Rn) (t:Int) (h:l.all qX=true):∀free:Int,0<=free->0<=pQ free l t/\pQ free l t<=free+256*l.length:=by
 induction l with
 | nil=>grind[pQ]
 | cons r l ih=>grind[qX,pQ]
def Yc {l:List Rn} (h:l.all qX=true) (h0:0<=free):∀(k:Nat) (t:Int),∀s∈iP free l k t,0<=s.fr/\s.fr<=free+256*l.length:=by
 intro k;induction k with
 | zero=>intro t s hs;cases hs
 | succ k ih=>grind[iP,KY]
def Hy {now free:Int} {l:List Rn}:∀s∈fC now free l,0<=s.fr/\s.fr<=256+256*l.length:=by
 intro s hs;unfold fC at hs;by_cases hr:right free l=true
 ·rw[aJ hr]at hs;obtain⟨hf,hok⟩:okF free=true/\l.all qX=true:=by simpa [right]using hr
  obtain⟨f0,f1⟩:0<=free/\free<=256:=by simpa [okF]using hf
  rcases lZ.1 hs with rfl | hs
  ·have:=KY l now hok free f0;grind
  ·have:=Yc hok f0 _ _ s hs;omega
 grind
def KZ {need:Int} {l:List Stp} {s:Stp} (h:l[j]?=some s):kN need (l.drop j)=if need<=s.fr then some s else kN need (l.drop (j+1)):=by
 grind[tu,kN]
end Pr
def aN (w:ay) (k:Nat):Z w (w.drewN k):=⟨rfl,rfl,rfl,aC _,fun _ _=>rfl⟩
def alG (W:ay) (v:Value) (l:List Stp):Prop:=∃ao cap g,v=.slice ao l.length cap/\(0<l.length->ao=some ⟨g,0,none⟩)/\∀j s,l[j]?=some s->W.cell? ⟨g,j*2,none⟩=some (J s.at_)/\W.cell? ⟨g,j*2+1,none⟩=some (J s.fr)
def ag_ (l:List Stp):∀j s,l[j]?=some s->(yG l)[j*2]?=some (J s.at_)/\(yG l)[j*2+1]?=some (J s.fr):=by
 induction l with
 | nil=>grind
 | cons x l ih=>grind[yG]
def UF {l:List Stp} (h:w.ownsRow B 113 2 v l.length (yG l)):alG w v l:=by
 rcases h.2 with⟨rfl,h0⟩ | ⟨g,cap,cur,rfl,hb,hg,_,_,_,ht⟩
 ·exact ⟨none,0,0,by grind,fun h=>by omega,fun j s hs=>by grind⟩
 ·refine ⟨some ⟨g,0,none⟩,cap,g,rfl,fun _=>rfl,fun j s hs=>?_⟩;have⟨h1,h2⟩:=ag_ l j s hs;grind[World.cell?]
def Yd {l:List Rn} (hA:eO w ao l) (hn:l.length*16<=140737488355328) (now free need:Int):
  Calls prog 34 #[J now,J free,.slice ao l.length c,J need] w fun e w'=>e=.returned (SX need (aX now free l need))/\Z w w':=by
 by_cases hr:right free l=true
 ·by_cases hnd:0<=need
  ·have hsh:aX now free l need=kN need (fC now free l):=(by simp[aX,hr,hnd]);have hnd':¬need<0:=ak;rw[hsh];go_enter func34,ntmps34;go_wp2_with fail
   refine(wK hA ak free).mono ?_;rw[hr];rintro e w1 ⟨rfl,b1⟩;go_wp2_with fail
   refine(Ba (hA.below b1) hn now free).mono ?_;rintro e w2 ⟨v,rfl,hrow,b2⟩;have bb:=b1.trans (b2.mono b1.size);have hsl:=acg now free l;have hsb:∀s∈fC now free l,0<=s.fr/\s.fr<=256+256*l.length:=Hy;obtain⟨ao2,cap2,g,rfl,hg,hc⟩:=UF hrow;clear hrow hsh;have⟨S,hS⟩:=aZ (fC now free l);rw[hS]at hc hg hsl hsb ⊢;have HS:Hid _:=hS;clear hS;have⟨q,hq⟩:=aZ S.length;rw[hq]at hg hsl ⊢;go_wp2_with fail
   go_loopg [12] q (fun gk p wr=>∃j:Nat,j+gk=q/\p=J j/\w2=wr/\kN need S=kN need (S.drop j))
   case atStart=>exact⟨0,by omega,rfl,rfl,by simp⟩
   case round=>
    obtain⟨j,hj,rfl,rfl,hinv⟩:=hrel;by_cases hlt:j<q
    ·obtain ⟨s,hs⟩:∃s,S[j]?=some s:=⟨_,aY ak⟩;obtain rfl:=hg ak;have⟨c1,c2⟩:=hc j s hs;have⟨s0,s1⟩:=hsb s (dW hs);rw[KZ hs]at hinv;clear hc hg hs hsb;by_cases a1:need<=s.fr
     ·rw[aJ a1]at hinv;have HI:Hid _:=hinv;clear hinv;go_wp2_with fail
      go_quiet (fail)
      all_goals
       go_wp2
       refine b_ (v:=SX need (some s)) (by simp[results,results34,go_sem,SX]) rfl ⟨by rw[HS.out,HI.out],bb.trans (aN _ _ |>.mono bb.size)⟩
     ·rw[au a1]at hinv;have HI:Hid _:=hinv;clear hinv;have a1':=a1;exact aox
    ·obtain rfl:j=q:=ak;have e:Hid (kN need S=none):=show kN need S=none by rw[hinv,vY ak];rfl
     clear hinv;go_wp2;refine b_ (v:=SX need none) (by simp[results,results34,go_sem,SX]) rfl ⟨by rw[HS.out,e.out],bb⟩
  ·have e:aX now free l need=none:=by simp[aX];omega
   rw[e];have hnd':need<0:=ak;go_enter func34,ntmps34;go_wp2_with fail
   refine(wK hA ak free).mono ?_;rw[hr];exact aok
 ·have hr':right free l=false:=by simpa using hr
  have e:aX now free l need=none:=by simp[aX,hr']
  rw[e];go_enter func34,ntmps34;go_wp2_with fail
  refine(wK hA ak free).mono ?_;rw[hr'];exact aok
end Pq
namespace Pq
open Go.RowKit Pr
def KeepsFrom.K4 {W W':ay} {K:Nat->Prop} (c:aH K W W') (hK:∀k,K k->k<B):KeepsFrom B W W':=⟨c.size,fun k _ hk hb _=>(c.block k (aS.1 hb).1 (fun h=>by grind)).trans hb⟩
section
variable {F:Fence} {n:Nat} {P:Program} {σ α:Type}
end
end Pq
namespace Pq
open Go.RowKit Pr
def aci (r:Rn) (w:ay):Calls prog 278 #[.agg #[J r.nd,J r.en]] w fun e w'=>e=.returned (.bool (!qX r))/\Z w w':=by
 have hb:Z w (w.alloc (.cells #[J r.nd,J r.en] 108)):=(aI _ w).alloc (aC _) _;go_enter func278,ntmps278;by_cases h1:r.nd<1
 ·exact aff
 ·by_cases h2:256<r.nd
  ·exact aff
  ·have e:qX r=true:=by simp[qX];omega
   rw[e];exact FK
def wM {l:List Rn} (hA:eO w ao l) (hn:l.length*16<=140737488355328):
  Calls prog 293 #[.slice ao l.length c,.func (.func 278) #[] #[]] w fun e w'=>∃k:Int,e=.returned (J k)/\(k= -1/\l.all qX=true\/0<=k/\l.all qX=false)/\Z w w':=by
 have⟨q,hq⟩:=aZ l.length;obtain⟨g,o,hg,hc⟩:=hA;rw[hq];rw[hq]at hg hn;go_enter func293,ntmps293;go_wp2;go_loopg [8] q (fun gk p wr=>∃j:Nat,j+gk=q/\p=J j/\Z w wr/\l.all qX=(l.drop j).all qX)
 case atStart=>exact⟨0,by omega,rfl,aI _ _,by simp⟩
 case round=>
  obtain⟨j,hj,rfl,hb,hinv⟩:=hrel;by_cases hlt:j<q
  ·obtain ⟨r,hr⟩:∃r,l[j]?=some r:=⟨_,aY ak⟩;obtain rfl:=hg ak;have⟨c1,c2⟩:=hc j r hr;replace c1:=(hb.cell (aU w _ c1)).trans c1;replace c2:=(hb.cell (aU w _ c2)).trans c2;rw[UE hr]at hinv;clear hc hg hr;go_wp2_with fail
   refine(aci r wr).mono ?_;rintro e w1 ⟨rfl,b1⟩;have b2:=hb.trans (b1.mono hb.size)
   cases ho:qX r with
   | false=>rw[ho,ZA]at hinv;have HI:Hid _:=hinv;clear hinv;go_wp2;go_ret;exact⟨_,rfl,.inr ⟨by omega,HI.out⟩,b2⟩
   | true=>
    rw[ho,rO]at hinv;have HI:Hid _:=hinv;clear hinv;go_wp2;go_roundg (q - (j+1))
    case measure=>omega
    case rel=>exact⟨j+1,by omega,rfl,b2,HI.out⟩
  ·obtain rfl:j=q:=ak;have e:Hid (l.all qX=true):=(by rw[hinv,vY ak];exact rfl);clear hinv;go_wp2;go_ret;exact⟨_,rfl,.inl ⟨rfl,e.out⟩,hb⟩
def oW {l:List Rn} (hA:eO w ao l) (hn:l.length*16<=140737488355328):
  Calls prog 271 #[.slice ao l.length c,.func (.func 278) #[] #[]] w fun e w'=>e=.returned (.bool (!l.all qX))/\Z w w':=by
 go_enter func271,ntmps271;go_wp2_with fail
 refine(wM hA hn).mono ?_;rintro e w1 ⟨k,rfl,(⟨rfl,h⟩ | ⟨hk,h⟩),b1⟩
 ·have H:Hid _:=h;clear h;go_wp2;go_ret;exact⟨by rw[H.out];rfl,b1⟩
 ·have H:Hid _:=h;clear h;go_wp2;go_ret;exact⟨by rw[H.out];rfl,b1⟩
def QO {l:List Rn} (hA:eO w ao l) (hn:l.length*16<=140737488355328) (free:Int):
  Calls prog 238 #[J free,.slice ao l.length c] w fun e w'=>e=.returned (.bool (right free l))/\Z w w':=by
 unfold right;by_cases h1:free<0
 ·have:okF free=false:=by simp[okF];omega
  have h1':¬0<=free:=ak;exact afb
 by_cases h2:256<free
 ·have:okF free=false:=by simp[okF];omega
  have h1':0<=free:=ak;have h2':¬free<=256:=ak;exact afb
 have hf:okF free=true:=by simp[okF];omega
 have h1':0<=free:=ak;have h2':free<=256:=ak;rw[hf,rO];go_enter func238,ntmps238;go_wp2_with fail
 refine(oW hA hn).mono ?_;rintro e w1 ⟨rfl,b1⟩
 cases h:l.all qX with
 | false=>simp only[Bool.not_false];go_wp2;go_ret;exact⟨by rw[h];rfl,b1⟩
 | true=>simp only[Bool.not_true];go_wp2;go_ret;exact⟨by rw[h];rfl,b1⟩
namespace Pr
def kU (a b:Int):Int:=if a<b then -1 else if b<a then 1 else 0
end Pr
def DW (a:Int) (w:ay):Calls prog 289 #[J a] w fun e w'=>e=.returned (.bool false)/\w'=w:=by
 go_enter func289,ntmps289;go_wp2;go_ret;simp
def Al (a b:Int) (w:ay):Calls prog 282 #[J a,J b] w fun e w'=>e=.returned (J (kU a b))/\w'=w:=by
 exact atA
def Ye (x y:Rn) (w:ay):Calls prog 281 #[.agg #[J x.nd,J x.en],.agg #[J y.nd,J y.en]] w fun e w'=>e=.returned (J (kU x.en y.en))/\∃q os,w'=Sort.grow (w.drewN q) os:=by
 go_enter func281,ntmps281;go_wp2_with (go_at_call 282;refine(Al _ _ _).mono ?_;rintro e w' ⟨rfl,rfl⟩)
 go_ret;refine⟨rfl,0,#[.cells #[J x.nd,J x.en] 108,.cells #[J y.nd,J y.en] 108],?_⟩;rw[za,za,JN];rfl
end Pq
namespace Pq
open Go.RowKit Pr
theorem _root_.Go.Proofs.YtdhifkbbjlhcaaaGreatDoor.aH.OG {W W':ay} (c:aH (fun _=>False) W W'):KeepsFrom B W W':=KeepsFrom.K4 c (fun _ h=>h.elim)
def Gives {α:Type} (gf:Nat) (lb:Array Value) (encs:α->Array Value) (S:List α) (D:Nat->Prop) (W:ay):Prop:=
 ∀(n l:Nat) (N:Nat->Prop) (T:Nat->Nat->World->Prop) (Tx:ay->Prop),1<=n->(∀j,N j->j<W.heap.size/\¬D j)->
  (∀W',Z W W'->T W'.heap.size 0 W')->
  (∀B k A A',W.heap.size<=B->T B k A->aH (fun j=>W.heap.size<=j/\j<B) A A'->KeepsOthers A A'->T B k A')->
  (∀B k s A,W.heap.size<=B->B<=A.heap.size->S[k]?=some s->T B k A->YieldAt Fence.wide (n - 1) prog l (encs s) A fun r A'=>(r=.returned (.bool true)/\T B (k+1) A'/\aH (fun j=>N j\/B<=j) A A')\/(r=.returned (.bool false)/\Tx A'))->
  CallsIn Fence.wide n prog gf (#[.func (.yield l) #[] #[]]++lb) W fun e W'=>(∃v,e=.returned v)/\((∃B,W.heap.size<=B/\T B S.length W')\/Tx W')
def wN {α:Type} (gf:Nat) (lb:Array Value) (encs:α->Array Value) (S:List α) (D:Nat->Prop) (w:ay):Prop:=
 (∀j,D j->j<w.heap.size)/\∀W,aH (fun j=>¬D j) w W->Gives gf lb encs S D W
theorem wN.fF {α:Type} {gf:Nat} {encs:α->Array Value} {S:List α} {D:Nat->Prop} {w w':ay} (h:wN gf lb encs S D w) (c:aH (fun j=>¬D j) w w'):wN gf lb encs S D w':=
 ⟨fun j hj=>gL (h.1 j hj) c.size,fun W cW=>h.2 W (c.trans cW (fun _ _ e=>e))⟩
theorem wN.below {α:Type} {gf:Nat} {encs:α->Array Value} {S:List α} {D:Nat->Prop} {w w':ay} (h:wN gf lb encs S D w) (b:Z w w'):wN gf lb encs S D w':=h.fF (aH.of_below b _)
def aha (B0:Nat) (K:Nat->Prop) (T:ay->Prop) (Tx:Code->World->Prop) (W:ay):Exit->Act->World->Prop
 | .normal,_,W'=>KeepsFrom B0 W W'/\aH K W W'/\T W'
 | .ret,_,W'=>KeepsFrom B0 W W'/\Tx .ret W'
 | .exit i,_,W'=>KeepsFrom B0 W W'/\Tx (.exit i) W'
 | .goto t,_,W'=>KeepsFrom B0 W W'/\Tx (.goto t) W'
 | .panic _,_,_=>False
 | .outgrown,_,_=>False
section
variable {n:Nat} {α:Type}
def OH {g:Operand} {ps:Array Tmp} {assign body:Code} {Q:Exit->Act->World->Prop} {a:Act} 
  (h1:3<=n) {gf:Nat} {lb:Array Value} (hg:a.eval g=.func (.func gf) #[] lb) (eg:∀args w,(callFunc gf args).run prog w=.ok (.enter gf args) w)
  {encs:α->Array Value} (hps:∀x,(encs x).size=ps.size) {S:List α} {D:Nat->Prop} (hS:wN gf lb encs S D w) (cells:α->Array Value) (tv:TypeId)
  (N:Nat->Prop) (hN:∀j,N j->j<w.heap.size/\¬D j) (T:Nat->Nat->World->Prop) (Tx:Code->World->Prop)
  (h0:∀W,Z w W->w.heap.size+2<=W.heap.size->T W.heap.size 0 W)
  (hT:∀B k A A',w.heap.size+2<=B->T B k A->aH (fun j=>w.heap.size<=j/\j<B) A A'->T B k A')
  (hTx:∀c,Aj (w.heap.size+1) (Tx c)) (a₁:α->Nat->Act)
  (hassign:∀(l:Nat) (x:α) (W:ay) (K:Act->World->Prop),K (a₁ x W.heap.size) (W.alloc (.cells (cells x) tv))->
   assign.wpIn (Fence.wide.inRound l) (n - 1 - 1) prog (Exit.then K (fun _ _ _=>False)) {tmps:=(ps.zip (encs x)).foldl (fun t (p,v)=>t.setIfInBounds p v) a.tmps,defers:= []} W)
  (hbody:∀(B k:Nat) (x:α) (p:Nat) (W:ay),w.heap.size+2<=B->S[k]?=some x->T B k W->B<=p->W.heap[p]?=some (.cells (cells x) tv (0,0))->(∃r,W.heap[w.heap.size+1]?=some (.loop r))->
   body.wpIn (Fence.wide.inRound (w.heap.size+1)) (n - 1 - 1) prog (aha w.heap.size (fun j=>N j\/B<=j) (T B (k+1)) Tx W) (a₁ x p) W)
  (hdone:∀(d B:Nat) (W:ay),w.heap.size<=d->w.heap.size+2<=B->T B S.length W->W.heap[d]?=some (.deferred (some []))->Q .normal {a with defers:={target:=.collected d,args:= #[]}::a.defers} W)
  (hstop:∀(d:Nat) (c:Code) (W:ay),w.heap.size<=d->Tx c W->W.heap[d]?=some (.deferred (some []))->c.wpIn Fence.wide n prog Q {a with defers:={target:=.collected d,args:= #[]}::a.defers} W):
  (Code.rangeFunc g ps assign body).wpIn Fence.wide n prog Q a w:=by
 refine KX (σ:=Nat×Nat×World) (F:=Fence.wide) rfl ak hg trivial eg encs hps
  (fun s x W=>w.heap.size+2<=s.1/\s.1<=W.heap.size/\S[s.2.1]?=some x/\T s.1 s.2.1 W/\aH (fun _=>False) s.2.2 W)
  (fun s _ W=>w.heap.size+2<=s.1/\T s.1 (s.2.1+1) W/\aH (fun j=>(N j\/w.heap.size<=j/\j<w.heap.size+2)\/s.1<=j) s.2.2 W)
  (fun c _ _ W=>Tx c W)
  (fun W=>∃B,w.heap.size+2<=B/\T B S.length W)
  (fun c W=>Tx c W)
  ?oI ?oX ?oF ?oFX
  (fun s x a' W=>w.heap.size+2<=s.1/\S[s.2.1]?=some x/\T s.1 s.2.1 W/\aH (fun j=>(N j\/w.heap.size<=j/\j<w.heap.size+2)\/s.1<=j) s.2.2 W/\∃p,s.1<=p/\a'=a₁ x p/\W.heap[p]?=some (.cells (cells x) tv (0,0)))
  ?oA ?assign ?body ?it ?done ?stop
 case oI=>rintro ⟨B,k,W0⟩ x W r o' ⟨hB,h2,h3⟩ _;exact⟨hB,hT B (k+1) _ _ hB h2 ((aH.refl _ W).mh o' (.inl ⟨by omega,by omega⟩)),h3.mh o' (.inl (.inl (.inr ⟨by omega,by omega⟩)))⟩
 case oX=>grind
 case oF=>rintro W r o' ⟨B,hB,h⟩ _;exact⟨B,hB,hT B _ _ _ hB h ((aH.refl _ W).mh o' (.inl ⟨by omega,by omega⟩))⟩
 case oFX=>omega
 case oA=>rintro ⟨B,k,W0⟩ x a' W r o' ⟨hB,h1,h2,h3,p,h4,h5,h6⟩ hl;have hB':w.heap.size+2<=B:=hB;have h4':B<=p:=h4;exact⟨hB,h1,hT B k _ _ hB h2 ((aH.refl _ W).mh o' (.inl ⟨by omega,by omega⟩)),h3.mh o' (.inl (.inl (.inr ⟨by omega,by omega⟩))),p,h4,h5,(DU ak).trans h6⟩
 case assign=>grind[aK,aH.refl,aH.alloc,aH.OG,aH.mono]
 case body=>
  rintro ⟨B,k,W0⟩ x a' W hr ⟨hB,h1,h2,h3,p,h4,rfl,h6⟩;refine wpIn_mono (hbody B k x p W hB h1 h2 h4 h6 hr) ?_;rintro e a3 W3 hp
  cases e with
  | normal=>grind[aH.trans,QL,aha]
  | ret=>exact hp
  | exit i=>exact hp
  | goto t=>exact hp
  | panic ch=>exact hp.elim
  | outgrown=>exact hp.elim
 case it=>
  intro R Rx hR hRx hrnd W hbW oz hRW;have hkeep:∀A A',KeepsOthers A A'->R A->R A':=fun A A' k h=>hR A A' h (k.from _);refine(hS.2 W (aH.of_below hbW _) (n - 1) (w.heap.size+1) (fun j=>N j\/w.heap.size<=j/\j<w.heap.size+2) (fun B k A=>T B k A/\R A) (fun A=>∃c,Tx c A/\Rx c A) ak ?_ ?_ ?_ ?_).mono ?_
  ·grind[wN]
  ·intro W' hb';have hz':=hb'.size;exact⟨h0 W' (hbW.trans (hb'.mono ak)) ak,hR _ _ hRW (aH.OG (aH.of_below hb' _))⟩
  ·grind[aH.mono]
  ·rintro B k s A hB hBA hs ⟨g1,g2⟩;have⟨fn,tmps,assign,body,hy,hRd⟩:=hrnd (B,k,A) s A ⟨by omega,hBA,hs,g1,aH.refl _ _⟩ g2;refine⟨fn,tmps,assign,body,hy,hRd.mono ?_⟩;grind
  grind
 case done=>grind
 omega
end
end Pq
namespace Pq
open Go.RowKit Go.Shelf Pr
attribute [local go_sem] Oper.semAt_some
def UG (v:Value):Nat:=match v with
 | .int _ z=>z.toNat
 | _=>0
def bK {p:Addr} (h:w.cell? p=some v) (o:Obj):(w.alloc o).cell? p=some v:=(World.cell?_alloc_lt _ _ _ (aU w p h)).trans h
theorem iQ (w:ay) {t:TypeId} (h:cs[k]?=some v):(w.alloc (.cells cs t)).cell? ⟨w.heap.size,k,none⟩=some v:=by
 simp_all
theorem aj {b k:Nat} {e:TypeId} {f:Nat×Nat} (h:w.heap[b]?=some (.cells cs e f)) (hv:cs[k]?=some v):w.cell? ⟨b,k,none⟩=some v:=by
 grind[World.cell?]
structure yH (g o:Nat) (W:ay) (ao:Option Addr) (l:List Rn):Prop where
 at_:0<l.length->ao=some ⟨g,o,none⟩
 cell:∀k r,l[k]?=some r->W.cell? ⟨g,o+k*2,none⟩=some (J r.nd)/\W.cell? ⟨g,o+k*2+1,none⟩=some (J r.en)
def yH.runs {g o:Nat} {l:List Rn} (h:yH g o W ao l):eO W ao l:=⟨g,o,h.at_,h.cell⟩
def eO.g {l:List Rn} (h:eO W ao l):∃g o,yH g o W ao l:=h.elim fun g h=>h.elim fun o h=>⟨g,o,h.1,h.2⟩
theorem yH.fF {g o:Nat} {W W':ay} {l:List Rn} {K:Nat->Prop} (h:yH g o W ao l) (c:aH K W W') (hK:0<l.length->¬K g):yH g o W' ao l:=
 ⟨h.at_,fun k r hr=>have:=hK (by grind);⟨c.cell (h.cell k r hr).1 this,c.cell (h.cell k r hr).2 this⟩⟩
theorem yH.lt {g o:Nat} {l:List Rn} (h:yH g o W ao l) (hl:0<l.length):g<W.heap.size:=aU W _ (h.cell 0 _ (aY hl)).1
def Yf (ao:Option Addr) (n c:Nat) (w:ay):Calls prog 280 #[.slice ao n c] w fun e w'=>e=.returned (.func (.func 298) #[] #[.pointer (some ⟨w.heap.size,0,none⟩)])/\w'=w.alloc (.cells #[.slice ao n c] 75):=by
 go_enter func280,ntmps280;exact mY
def encR (r:Rn):Array Value:= #[.agg #[J r.nd,J r.en]]
def QS {b g o c:Nat} {l:List Rn} (hb:W.cell? ⟨b,0,none⟩=some (.slice ao l.length c)) (hA:yH g o W ao l) (hlen:l.length*16<=140737488355328):
  Gives 298 #[.pointer (some ⟨b,0,none⟩)] encR l (fun j=>j=b\/(0<l.length/\j=g)) W:=by
 intro n L N T Tx hn hN h0 hT hY;refine callsIn_of_wp func298 rfl trivial ?_ rfl;simp only[ntmps298,vD,dK,jh,Nat.reduceAdd,Nat.reduceSub,vE,vF,vG,vH,pY,mP];have T0:Hid (T W.heap.size 0 W):=h0 W (aI _ _);have HA:Hid _:=hA;clear hA h0;have⟨q,hq⟩:=aZ l.length;rw[hq]at hlen hb ⊢;gi_wp2
 gi_loopw [7] (fun p wr=>∃k:Nat,p=J k/\k<=q/\yH g o wr ao l/\T W.heap.size k wr/\W.heap.size<=wr.heap.size) (fun p _=>q - UG p)
 case atStart=>grind[Hid.out]
 case round=>
  obtain⟨k,rfl,hkq,hls,hTk,hwz⟩:=hrel;by_cases hlt:k<q
  ·obtain ⟨r,hr⟩:∃r,l[k]?=some r:=⟨_,aY ak⟩;have⟨x0,x1⟩:=hls.cell k r hr;obtain rfl:=hls.at_ ak;have⟨wn,hwn⟩:=aZ (wr.alloc (.cells #[J r.nd,J r.en] 108));have bn:Z wr wn:=(by grind[aI,Below.alloc]);have kn:KeepsOthers wr wn:=(by grind[KeepsOthers.alloc]);have⟨fn,tmps,assign,body,hy,hR⟩:=hY W.heap.size k r wn (aC _) (bM hwz bn.size) hr (hT _ _ _ _ (aC _) hTk (aH.of_below bn _) kn);have LSn:Hid _:=hls.fF (aH.of_below bn (fun _=>False)) (fun _ h=>h);have HWZ:Hid (W.heap.size<=wn.heap.size):=bM hwz bn.size;have y0:wn.cell? ⟨wr.heap.size,0,none⟩=some (J r.nd):=(by grind[iQ]);have y1:wn.cell? ⟨wr.heap.size,1,none⟩=some (J r.en):=(by grind[iQ]);have HG:Hid (0<l.length->g<W.heap.size):=fun h=>HA.out.lt h;unfold encR at hy;clear hls hTk hT hY;gi_wp2
   refine hR.mono ?_;rintro e w3 (⟨rfl,hT3,hC3⟩ | ⟨rfl,hx3⟩)
   ·gi_wp2
    go_roundw
    case rel=>refine⟨k+1,rfl,by omega,LSn.out.fF hC3 ?_,hT3,bM HWZ.out hC3.size⟩;grind[Hid.out]
    grind[UG]
   ·gi_wp2
    refine b_ (qV rfl _ _ _) rfl ?_;grind
  ·exact aoC
def Yg {b g o c:Nat} {l:List Rn} (hb:w.cell? ⟨b,0,none⟩=some (.slice ao l.length c)) (hA:yH g o w ao l) (hlen:l.length*16<=140737488355328):
  wN 298 #[.pointer (some ⟨b,0,none⟩)] encR l (fun j=>j=b\/(0<l.length/\j=g)) w:=
 ⟨fun j hj=>by
  rcases hj with rfl | ⟨hl,rfl⟩
  ·exact aU w _ hb
  ·exact hA.lt hl,fun W cW=>QS (cW.cell hb (fun h=>h (.inl rfl))) (hA.fF cW (fun hl h=>h (.inr ⟨hl,rfl⟩))) hlen⟩
end Pq
namespace Pq.Pr
def su:List Rn->Int->Int
 | [],_=>0
 | r::l,t=>(if r.en<=t then r.nd else 0)+su l t
def pR (l:List Rn) (t:Int):∀free,pQ free l t=free+su l t:=by
 induction l with
 | nil=>grind[pQ,su]
 | cons r l ih=>grind[pQ,su]
def QT (a b:List Rn) (t:Int):su (a++b) t=su a t+su b t:=by
 induction a with
 | nil=>simp[su]
 | cons r l ih=>grind[su]
def ahb {r:Rn} (h:qX r=true):1<=r.nd/\r.nd<=256:=by simpa [qX]using h
def axt {l:List Rn} (h:l.all qX=true) {t u:Int} (htu:t<=u):su l t<=su l u:=by
 induction l with
 | nil=>exact kL _
 | cons r l ih=>grind[qX,su]
def aam {l:List Rn} {t u:Int} (htu:t<=u) (h:∀r∈l,t<r.en->u<r.en):su l u=su l t:=by
 induction l with
 | nil=>rfl
 | cons r l ih=>grind[su]
def ahc {l:List Rn} {a n u free:Int} (h:iY none l a=some n) (h1:a<=u) (h2:u<n):pQ free l u=pQ free l a:=by
 rw[pR,pR,aam h1 (fun r hr hlt=>by have:=(fB h).2.2 r hr hlt;omega)]
def at_end {l:List Rn} {a u free:Int} (h:iY none l a=none) (h1:a<=u):pQ free l u=pQ free l a:=by
 rw[pR,pR,aam h1 (fun r hr hlt=>by have:=OC h r hr;omega)]
def fromV (free:Int) (l:List Rn) (a:Int):List Stp:=⟨a,pQ free l a⟩::Ak free l a
def UH {l:List Rn} {C:Int->Prop} (h0:∀a,iY none l a=none->C a) (h1:∀a n,iY none l a=some n->C n->C a):∀a,C a:=by
 have:∀k a,cnt l a<=k->C a:=by
  intro k;induction k with
  | zero=>
   intro a ha
   cases hn:iY none l a with
   | none=>grind
   | some n=>have:=cnt_lt (fB hn).1 (fB hn).2.1;omega
  | succ k ih=>
   intro a ha
   cases hn:iY none l a with
   | none=>grind
   | some n=>exact h1 a n hn (ih n (by have:=cnt_lt (fB hn).1 (fB hn).2.1;omega))
 exact fun a=>this _ a (aC _)
def Gf {l:List Rn} (h:iY none l a=none):fromV free l a= [⟨a,pQ free l a⟩]:=by grind[fromV,OD]
theorem Gg {l:List Rn} (h:iY none l a=some n):fromV free l a=⟨a,pQ free l a⟩::fromV free l n:=by grind[fromV,OE]
def acn {l:List Rn}:∀a,∃s,(fromV free l a).getLast?=some s/\∀u,s.at_<=u->pQ free l u=s.fr:=by
 refine UH (l:=l) (fun a h=>?_) (fun a n h ih=>?_)
 ·rw[Gf h];exact⟨_,rfl,fun u hu=>at_end h hu⟩
 grind[Gg]
theorem Dj {free need:Int} {l:List Rn}:∀a,
  (∀s,kN need (fromV free l a)=some s->a<=s.at_/\s.fr=pQ free l s.at_/\need<=s.fr/\∀u,a<=u->u<s.at_->pQ free l u<need)/\
  (kN need (fromV free l a)=none->∀u,a<=u->pQ free l u<need):=by
 refine UH (l:=l) (fun a h=>?_) (fun a n h ih=>?_)
 ·rw[Gf h];simp only[kN];by_cases c:need<=pQ free l a
  ·exact anZ
  ·rw[au c];exact⟨fun s hs=>(by cases hs),fun _ u hu=>by rw[at_end h hu];omega⟩
 ·rw[Gg h];simp only[kN];by_cases c:need<=pQ free l a
  ·exact anZ
  ·rw[au c];have hn:=(fB h).1;refine⟨fun s hs=>?_,fun hs u hu=>?_⟩
   ·have⟨h1,h2,h3,h4⟩:=ih.1 s hs;refine⟨by omega,h2,h3,fun u hu1 hu2=>?_⟩;by_cases g:u<n
    ·rw[ahc h hu1 g];omega
    ·exact h4 u ak hu2
   ·by_cases g:u<n
    ·rw[ahc h hu g];omega
    ·exact ih.2 hs u ak
end Pq.Pr
namespace Pq.Pr
def fG:List Rn->Int
 | []=>0
 | r::l=>r.nd+fG l
theorem uf (a b:List Rn):fG (a++b)=fG a+fG b:=by
 induction a with
 | nil=>simp[fG]
 | cons r a ih=>grind[fG]
def OI {l:List Rn} {r:Rn} (h:l[j]?=some r):fG (l.take (j+1))=fG (l.take j)+r.nd:=by
 rw[kT,h,uf];simp[fG]
def qx {l:List Rn} (h:l.all qX=true):0<=fG l/\fG l<=256*l.length:=by
 induction l with
 | nil=>simp[fG]
 | cons r l ih=>grind[qX,fG]
def wO {l:List Rn} (h:l.all qX=true) (j:Nat):(l.take j).all qX=true:=by
 grind
def zh {l:List Rn} (h:l.all qX=true) (j:Nat):(l.drop j).all qX=true:=by
 grind
def ahd {l:List Rn} (h:∀r∈l,r.en<=a):su l a=fG l:=by
 induction l with
 | nil=>rfl
 | cons r l ih=>grind[su,fG]
def Ju {l:List Rn} (h:∀r∈l,a<r.en):su l a=0:=by
 induction l with
 | nil=>rfl
 | cons r l ih=>grind[su]
def QU {l m:List Rn} (h:l.Perm m) (t:Int):su l t=su m t:=by
 induction h with
 | nil=>rfl
 | cons x _ ih=>simp only[su,ih]
 | swap x y l=>simp only[su];omega
 | trans _ _ h1 h2=>omega
def QV {l:List Rn} (h:∀r∈l,r.en<=t):iY none l t=none:=by
 cases hn:iY none l t with
 | none=>rfl
 | some n=>obtain⟨h1,⟨r,hr,hrn⟩,_⟩:=fB hn;grind
def QW {l:List Rn} (h1:t<n) (h2:∃r∈l,r.en=n) (h3:∀r∈l,t<r.en->n<=r.en):iY none l t=some n:=by
 cases hn:iY none l t with
 | none=>obtain⟨r,hr,hrn⟩:=h2;have:=OC hn r hr;omega
 | some m=>have⟨g1,⟨s,hs,hsm⟩,g3⟩:=fB hn;grind
def Gh (m:List Rn):Prop:=m.Pairwise (fun x y=>x.en<=y.en)
def oZ (t:Int):List Rn->Nat
 | []=>0
 | r::l=>if r.en<=t then oZ t l+1 else 0
theorem aan (t:Int) (l:List Rn):oZ t l<=l.length:=by
 induction l with
 | nil=>exact aC _
 | cons r l ih=>grind[oZ]
theorem aao {l:List Rn} {r:Rn} (h:l[j]?=some r) (hj:j<oZ t l):r.en<=t:=by
 induction l generalizing j with
 | nil=>grind
 | cons x l ih=>grind[oZ]
theorem aap {l:List Rn} {r:Rn} (h:l[oZ t l]?=some r):t<r.en:=by
 induction l with
 | nil=>grind
 | cons x l ih=>grind[oZ]
def aaq {l:List Rn} (hj:j<=l.length) (h1:∀i r,i<j->l[i]?=some r->r.en<=t) (h2:∀r,l[j]?=some r->t<r.en):oZ t l=j:=by
 rcases Nat.lt_trichotomy (oZ t l) j with h | h | h
 ·obtain ⟨r,hr⟩:∃r,l[oZ t l]?=some r:=⟨_,aY ak⟩;grind[aap]
 ·omega
 ·have:=aan t l;obtain⟨r,hr⟩:∃r,l[j]?=some r:=⟨_,aY ak⟩;have:=aao hr h;grind
def aqw {m:List Rn} (hs:Gh m) (hc:∀r∈m.take c,r.en<=a):
  (∀r∈m.take (c+oZ a (m.drop c)),r.en<=a)/\(∀r∈m.drop (c+oZ a (m.drop c)),a<r.en)/\su m a=fG (m.take (c+oZ a (m.drop c))):=by
 have e1:∀r∈m.take (c+oZ a (m.drop c)),r.en<=a:=by grind[List.mem_iff_getElem?,aao]
 have e2:∀r∈m.drop (c+oZ a (m.drop c)),a<r.en:=by
  intro r hr
  cases hd:m.drop (c+oZ a (m.drop c))with
  | nil=>grind
  | cons x y=>
   have hx:m[c+oZ a (m.drop c)]?=some x:=by have:(m.drop (c+oZ a (m.drop c)))[0]?=some x:=(by grind);grind
   have hx':=aap (t:=a) (l:=m.drop c) (r:=x) (by grind);rw[hd]at hr;rcases lZ.1 hr with rfl | hr
   ·omega
   ·have hp:(x::y).Pairwise (fun x y=>x.en<=y.en):=(by grind[Gh]);grind[qH]
 refine⟨e1,e2,?_⟩;have:su m a=su (m.take (c+oZ a (m.drop c))++m.drop (c+oZ a (m.drop c))) a:=by simp_all
 rw[this,QT,ahd e1,Ju e2];omega
def ahe {m l:List Rn} {r:Rn} (hp:m.Perm l) (hs:Gh m) (h1:∀r∈m.take c,r.en<=a) (h2:∀r∈m.drop c,a<r.en) (hr:m[c]?=some r):iY none l a=some r.en:=by
 have hm:=dW hr;have hd:=Yb hr;refine QW (h2 r (by grind)) ⟨r,hp.mem_iff.1 hm,rfl⟩ (fun s hs' hlt=>?_);have hsm:s∈m.take c++m.drop c:=by grind[Fq]
 rcases pX.1 hsm with h | h
 ·grind
 ·rw[hd]at h;rcases lZ.1 h with rfl | h
  ·omega
  ·have hpw:(r::m.drop (c+1)).Pairwise (fun x y=>x.en<=y.en):=(by grind[Gh]);simp_all
def ahf {m l:List Rn} (hp:m.Perm l) (h1:∀r∈m.take c,r.en<=a) (hc:m.length<=c):iY none l a=none:=
 QV (fun s hs=>h1 s (by grind[xH]))
end Pq.Pr
end Go.Proofs.YtdhifkbbjlhcaaaGreatDoor
