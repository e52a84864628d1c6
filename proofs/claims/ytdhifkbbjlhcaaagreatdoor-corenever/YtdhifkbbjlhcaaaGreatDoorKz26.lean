import Derived.Test.YtdhifkbbjlhcaaaGreatDoorChecked
import Derived.WalkSpells
import Derived.WalkLawsBesides
import Derived.Deep.DrawnRows
import Derived.Shelf.Abstract
import Derived.RowKit3
import Derived.Test.YtdhifkbbjlhcaaaGreatDoorKz4
import Derived.ArgAppend
import Derived.Laws.AppendOwnNone
import Derived.BigQuiet
import Derived.BigRegion
import Derived.Deep.QuietTactic
import Derived.Deep.DeepCutAuto
set_option maxRecDepth 20000
set_option maxHeartbeats 1000000
set_option linter.defProp false
namespace Go.Proofs.YtdhifkbbjlhcaaaGreatDoor
open Go.Proofs.Tryz
variable {ao:Option Addr} {cs cur:Array Value} {i j k n p:Nat} {v:Value} {w w':ay}
namespace A3
open Go.RowKit
namespace Ag
def kU (a b:Int):Int:=if a<b then -1 else if b<a then 1 else 0
def orV (a b:Int):Int:=if a=0 then b else a
end Ag
open Ag
def DW (a:Int) (w:ay):Calls prog 289 #[J a] w fun e w'=>e=.returned (.bool false)/\w'=w:=by
 go_enter func289,ntmps289;go_wp2;go_ret;simp
def Al (a b:Int) (w:ay):Calls prog 282 #[J a,J b] w fun e w'=>e=.returned (J (kU a b))/\w'=w:=by
 exact atA
def aqP (b:Nat) (x y:Int) (w:ay) (h0:w.cell? ⟨b,0,none⟩=some (J x)) (h1:w.cell? ⟨b,1,none⟩=some (J y)):
  Calls prog 292 #[.slice (some ⟨b,0,none⟩) 2 2] w fun e w'=>e=.returned (J (orV x y))/\w'=w:=by
 go_enter func292,ntmps292;go_wp2;go_loopg [8] 2 (fun gk c wr=>∃k:Nat,k+gk=2/\c=J k/\wr=w/\(1<=k->x=0)/\(2<=k->y=0))
 case atStart=>exact⟨0,by omega,rfl,rfl,by omega,by omega⟩
 case round=>
  obtain⟨k,hk,rfl,rfl,hx,hy⟩:=hrel;by_cases k0:k=0
  ·subst k0;by_cases e:x=0
   ·subst e;go_wp2;go_roundg 1
    case measure=>omega
    case rel=>exact⟨1,rfl,rfl,rfl,fun _=>trivial,by omega⟩
   ·go_wp2;go_ret
    simp[orV,e]
  ·have hx0:=hx ak;by_cases k1:k=1
   ·subst k1;by_cases e:y=0
    ·subst e;go_wp2;go_roundg 0
     case measure=>omega
     case rel=>exact⟨2,rfl,rfl,rfl,fun _=>hx0,fun _=>trivial⟩
    ·go_wp2;go_ret
     simp[orV,hx0]
   ·obtain rfl:k=2:=ak;have hy0:=hy ak;go_wp2;go_ret;simp[orV,hx0,hy0]
namespace Ag
def ahC (i a j b:Int):Int:=orV (kU a b) (kU i j)
end Ag
def xX (w w':ay):Prop:=∃q os,w'=Sort.grow (w.drewN q) os
def aqQ (w:ay) (i a j b:Int) (w':ay):Prop:=
 w'.cell? ⟨w.heap.size,0,none⟩=some (J i)/\w'.cell? ⟨w.heap.size,1,none⟩=some (J a)/\w'.cell? ⟨w.heap.size+1,0,none⟩=some (J j)/\w'.cell? ⟨w.heap.size+1,1,none⟩=some (J b)/\xX w w'
def Yp (w:ay) (i a j b:Int) (t:TypeId):aqQ w i a j b (((w.alloc (.cells #[J i,J a] t)).alloc (.cells #[J j,J b] t)).drew):=by
 have h1:((w.alloc (.cells #[J i,J a] t)).alloc (.cells #[J j,J b] t)).heap[w.heap.size]?=some (.cells #[J i,J a] t (0,0)):=by grind[World.alloc]
 have h2:((w.alloc (.cells #[J i,J a] t)).alloc (.cells #[J j,J b] t)).heap[w.heap.size+1]?=some (.cells #[J j,J b] t (0,0)):=by grind[World.alloc]
 have hq:∀ {W:ay} {k o:Nat} {cs:Array Value} {v:Value},W.heap[k]?=some (.cells cs t (0,0))->cs[o]?=some v->W.drew.cell? ⟨k,o,none⟩=some v:=by grind[World.drew,World.cell?]
 refine⟨hq h1 rfl,hq h1 rfl,hq h2 rfl,hq h2 rfl,1,#[.cells #[J i,J a] t,.cells #[J j,J b] t],?_⟩
 ·rw[za,za,JN];rfl
def bK {p:Addr} (h:w.cell? p=some v) (o:Obj):(w.alloc o).cell? p=some v:=(World.cell?_alloc_lt _ _ _ (aU w p h)).trans h
theorem iQ (w:ay) {t:TypeId} (h:cs[k]?=some v):(w.alloc (.cells cs t)).cell? ⟨w.heap.size,k,none⟩=some v:=by
 simp_all
def U5 (w:ay) {o1 o2:Obj} {t:TypeId} (h:cs[k]?=some v):(((w.alloc o1).alloc o2).alloc (.cells cs t)).drew.cell? ⟨w.heap.size+1+1,k,none⟩=some v:=by
 have:=iQ ((w.alloc o1).alloc o2) (t:=t) h;simp_all
def au2 (w:ay) (o1 o2 o3:Obj):xX w (((w.alloc o1).alloc o2).alloc o3).drew:=⟨1,#[o1,o2,o3],by rw[za,za,za,JN,JN];rfl⟩
def Yq {w w1:ay} {i a j b:Int} (h:aqQ w i a j b w1) (o:Obj):aqQ w i a j b (w1.alloc o):=by
 obtain⟨h1,h2,h3,h4,q,os,rfl⟩:=h;exact⟨bK h1 _,bK h2 _,bK h3 _,bK h4 _,q,os.push o,by rw[za,JN,Array.append_singleton]⟩
def Ib (i a j b:Int) (w:ay):Calls prog 263 #[.agg #[J i,J a],.agg #[J j,J b]] w fun e w'=>e=.returned (J (ahC i a j b))/\∃q os,w'=Sort.grow (w.drewN q) os:=by
 unfold ahC;have S0:Hid _:=Yp w i a j b 237;go_enter func263,ntmps263;go_wp2_with fail
 go_region_held3 (fun w'=>w'.cell? ⟨w.heap.size,0,none⟩=some (J i)/\w'.cell? ⟨w.heap.size,1,none⟩=some (J a)/\w'.cell? ⟨w.heap.size+1,0,none⟩=some (J j)/\w'.cell? ⟨w.heap.size+1,1,none⟩=some (J b)/\xX w w') (first | exact S0.out | assumption | exact Yq lV _)
  (first
  | (go_at_call 282;refine(Al _ _ _).mono ?_;rintro e w' ⟨rfl,rfl⟩)
  | (go_at_call 292;refine(aqP _ (kU a b) (kU i j) _ ?_ ?_).mono ?_;(refine U5 _ ?_;rfl);(refine U5 _ ?_;rfl);rintro e w' ⟨rfl,rfl⟩))
 all_goals
  go_wp2
  go_ret
  exact⟨rfl,au2 _ _ _ _⟩
end A3
namespace A3
open Go.RowKit Ag
namespace Ag
structure En where
 id:Int
 tm:Int
def En.cells (e:En):List Value:= [J e.id,J e.tm]
instance :Inhabited En:=⟨⟨0,0⟩⟩
def flat (h:Nat->En):Nat->List Value
 | 0=> []
 | n+1=>flat h n++(h n).cells
theorem Le (h:Nat->En) (n:Nat):(flat h n).length=n*2:=by
 induction n with
 | zero=>rfl
 | succ n ih=>grind[flat,En.cells]
theorem aaA (h:Nat->En) (n k d:Nat) (hk:k<n) (hd:d<2):(flat h n)[k*2+d]?=(h k).cells[d]?:=by
 induction n with
 | zero=>omega
 | succ n ih=>grind[flat,Le]
theorem ahD {h h':Nat->En} (e:∀k,k<n->h k=h' k):flat h n=flat h' n:=by
 induction n with
 | zero=>rfl
 | succ n ih=>grind[flat]
def al2 {h:Nat->En} {l:List Value} (hl:l.length=n*2) (hc:∀k,k<n->∀d,d<2->l[k*2+d]?=(h k).cells[d]?):l=flat h n:=by
 apply Zy;intro i;by_cases hi:i<n*2
 ·have:=hc (i / 2) ak (i % 2) ak;grind[aaA]
 grind[Le]
end Ag
theorem xX.below (h:xX w w'):Z w w':=by
 obtain⟨q,os,rfl⟩:=h;refine⟨rfl,rfl,rfl,by simp_all,fun k hk=>?_⟩;show (w.heap++os)[k]?=w.heap[k]?;grind
abbrev QC (i:Int):Prop:=(Lit.int .i64 i).wf=true
structure mG (w:ay) (te g cap n:Nat) (h:Nat->En) (cur:Array Value):Prop where
 blk:w.heap[g]?=some (.cells cur te (0,0))
 sz:cur.size=cap*2
 le:n<=cap
 max:cap<=maxLen
 at_:∀k,k<n->∀d,d<2->cur[k*2+d]?=(h k).cells[d]?
def Aq (w:ay) (te:Nat) (ao:Option Addr) (cap n:Nat) (h:Nat->En):Prop:=
 (ao=none/\n=0/\cap=0)\/∃g cur,ao=some ⟨g,0,none⟩/\mG w te g cap n h cur
def Aq.owns {te:Nat} {cap n:Nat} {h:Nat->En} (r:Aq w te ao cap n h):w.ownsRow 0 te 2 (.slice ao n cap) n (flat h n):=by
 refine⟨Le h n,?_⟩;rcases r with⟨rfl,rfl,rfl⟩ | ⟨g,cur,rfl,r⟩
 ·grind
 ·refine .inr ⟨g,cap,cur,rfl,ni _,r.blk,r.le,r.max,r.sz,al2 ?_ ?_⟩
  ·have:=r.sz;have:=r.le;grind
  grind[mG.at_]
def Aq.al3 {te base:Nat} {cap n:Nat} {h:Nat->En} (r:w.ownsRow base te 2 (.slice ao n cap) n (flat h n)):Aq w te ao cap n h:=by
 rcases r.2 with⟨hv,h0⟩ | ⟨g,cap',cur,hv,_,hb,hn,hm,hs,ht⟩
 ·grind[Aq]
 ·simp at hv;obtain⟨rfl,rfl⟩:=hv;refine .inr ⟨g,cur,rfl,hb,hs,hn,hm,fun k hk d hd=>?_⟩;have:=aaA h n k d hk hd;grind
end A3
namespace A3
open Go.RowKit Ag
abbrev K0 (i:Int):Lit:=.int .i64 i
abbrev V0 (k:Nat):DataW Unit:=.lit (.int .i64 k)
abbrev Z0:DataW Unit:=.lit (.int .i64 0)
namespace Ag
def swp (h:Nat->En) (i j k:Nat):En:=if k=i then h j else if k=j then h i else h k
def upd (h:Nat->En) (n:Nat) (e:En) (k:Nat):En:=if k=n then e else h k
end Ag
structure PD (D:DataW Unit) (n:Nat) (h:Nat->En):Prop where
 isM:Maps.IsMap D
 tidy:Maps.Tidy D
 size:Maps.size D=n
 yes:∀k,k<n->Maps.has D (K0 (h k).id)=true/\D.atKey (K0 (h k).id) Z0=V0 k
 no:∀i,(∀k,k<n->(h k).id≠i)->Maps.has D (K0 i)=false/\D.atKey (K0 i) Z0=Z0
section
variable {D:DataW Unit} {n:Nat} {h:Nat->En}
def PD.inj (p:PD D n h) {k k':Nat} (hk:k<n) (hk':k'<n) (e:(h k).id=(h k').id):k=k':=by
 have h1:=(p.yes k hk).2;have h2:=(p.yes k' hk').2;grind
theorem isK (i:Int):WideAt.IsKeyLit (K0 i):=trivial
def uj {i j:Int} (h:i≠j):K0 i≠K0 j:=fun e=>h (by grind)
def PD.aqR (p:PD D n h) (i:Int) (d:DataW Unit):Maps.Tidy (D.put (K0 i) d):=Maps.Tidy.put p.tidy (isK _) _
def PD.swap (p:PD D n h) (hi:i<n) (hj:j<n):PD ((D.put (K0 (h j).id) (V0 i)).put (K0 (h i).id) (V0 j)) n (swp h i j):=by
 have hi':=(p.yes i hi).1;have hj':=(p.yes j hj).1;have m1:Maps.IsMap (D.put (K0 (h j).id) (V0 i)):=p.isM.put _ _;have s1:Maps.has (D.put (K0 (h j).id) (V0 i)) (K0 (h i).id)=true:=by
  by_cases e:(h i).id=(h j).id
  ·rw[e];exact Fp p.isM (isK _) _
  ·rw[xG (uj e)];exact hi'
 refine⟨m1.put _ _,Maps.Tidy.put (p.aqR _ _) (isK _) _,?_,fun k hk=>?_,fun x hx=>?_⟩
 ·rw[Maps.size_put (p.aqR _ _),s1,aJ rfl,Maps.size_put p.tidy,hj',aJ rfl];exact p.size
 ·by_cases e1:(swp h i j k).id=(h i).id
  ·have ek:k=j:=by
    unfold swp at e1;split at e1
    ·rename_i e;subst e;exact(p.inj hj hi e1).symm
    ·split at e1
     ·assumption
     ·exact absurd (p.inj hk hi e1) lV
   rw[e1,Fp m1 (isK _),Cn m1 (isK _),ek];exact⟨rfl,rfl⟩
  ·rw[xG (uj e1),yY (uj e1)];by_cases e2:(swp h i j k).id=(h j).id
   ·have ek:k=i:=by
     unfold swp at e1 e2;split at e2
     ·assumption
     ·split at e2
      ·rename_i e e';subst e';simp[e]at e1
      ·exact absurd (p.inj hk hj e2) lV
    rw[e2,Fp p.isM (isK _),Cn p.isM (isK _),ek];exact⟨rfl,rfl⟩
   ·rw[xG (uj e2),yY (uj e2)];unfold swp at e1 e2 ⊢;split at e1
    ·rename_i q1;rw[aJ q1]at e2;exact absurd rfl e2
    ·split at e1
     ·exact absurd rfl e1
     ·rename_i q1 q2;rw[au q1,au q2];exact p.yes k hk
 ·have a1:(h i).id≠x:=by
   have:=hx j hj;unfold swp at this;split at this
   ·rename_i e;rw[e]at this;exact this
   ·simpa using this
  have a2:(h j).id≠x:=by have:=hx i hi;simpa [swp]using this
  rw[xG (uj a1.symm),yY (uj a1.symm),xG (uj a2.symm),yY (uj a2.symm)];refine p.no x (fun k hk e=>?_);by_cases e1:k=i
  ·subst e1;exact a1 e
  ·by_cases e2:k=j
   ·subst e2;exact a2 e
   ·exact hx k hk (by simp[swp,e1,e2,e])
theorem PD.add (p:PD D n h) {e:En} (hne:∀k,k<n->(h k).id≠e.id):PD (D.put (K0 e.id) (V0 n)) (n+1) (upd h n e):=by
 refine⟨p.isM.put _ _,p.aqR _ _,?_,fun k hk=>?_,fun x hx=>?_⟩
 ·grind[Maps.size_put,tidy,no,size]
 ·grind[upd,Fp,isM,isK,Cn,xG,yY,yes]
 ·have a1:e.id≠x:=by have:=hx n ak;simpa [upd]using this
  rw[xG (uj a1.symm),yY (uj a1.symm)];refine p.no x (fun k hk=>?_);have:=hx k ak;grind[upd]
theorem PD.pop (p:PD D (n+1) h):PD (D.del (K0 (h n).id)) n h:=by
 refine⟨p.isM.del _,Maps.Tidy.del p.tidy _,?_,fun k hk=>?_,fun x hx=>?_⟩
 ·grind[Maps.size_del,tidy,yes,size]
 ·grind[Maps.has_del_other,Maps.atKey_del_other,yes]
 grind[Maps.has_del_same,Maps.atKey_del_same,Maps.has_del_other,Maps.atKey_del_other,no]
end
structure Raw (ts te:Nat) (w:ay) (a m:Nat) (ao:Option Addr) (cap n:Nat) (h:Nat->En):Prop where
 blk:w.heap[a]?=some (.cells #[.slice ao n cap,.map (some m)] ts (0,0))
 row:Aq w te ao cap n h
 pm:∃D:DataW Unit,w.ownsMap prog 3 (plainElem prog 3) m n D/\PD D n h
 am:a≠m
 ag:∀g,ao=some ⟨g,0,none⟩->g≠a/\g≠m
 ok:∀k,k<n->QC (h k).id/\QC (h k).tm/\True
 top:n<=35184372088832
theorem aj {b e k:Nat} (hb:w.heap[b]?=some (.cells cs e (0,0))) (hv:cs[k]?=some v):w.cell? ⟨b,k,none⟩=some v:=by
 grind[World.cell?]
theorem aD {b e k:Nat} (hb:w.heap[b]?=some (.cells cs e (0,0))):w.frozen? ⟨b,k,none⟩=false:=by
 grind[World.frozen?]
section
variable {ts te:Nat} {w:ay} {a m:Nat} {ao:Option Addr} {cap n:Nat} {h:Nat->En}
def Raw.c0 (r:Raw ts te w a m ao cap n h):w.cell? ⟨a,0,none⟩=some (.slice ao n cap):=aj r.blk rfl
def Raw.c1 (r:Raw ts te w a m ao cap n h):w.cell? ⟨a,1,none⟩=some (.map (some m)):=aj r.blk rfl
def Raw.has (r:Raw ts te w a m ao cap n h) (hn:0<n):∃g cur,ao=some ⟨g,0,none⟩/\mG w te g cap n h cur/\g≠a/\g≠m:=by
 rcases r.row with⟨_,h0,_⟩ | ⟨g,cur,rfl,hr⟩
 ·omega
 grind[ag]
theorem mG.cell {g:Nat} (r:mG w te g cap n h cur) (hk:k<n):w.cell? ⟨g,k*2,none⟩=some (J (h k).id)/\w.cell? ⟨g,k*2+1,none⟩=some (J (h k).tm)/\True:=
 ⟨aj r.blk (by have:=r.at_ k hk 0 ak;grind[En.cells]),aj r.blk (by grind[at_,En.cells]),trivial⟩
def Raw.alt (r:Raw ts te w a m ao cap n h):a<w.heap.size:=(aS.1 r.blk).1
def Raw.mlt (r:Raw ts te w a m ao cap n h):m<w.heap.size:=by obtain⟨_,ho,_⟩:=r.pm;exact ho.lt
theorem mG.lt {g:Nat} (r:mG w te g cap n h cur):g<w.heap.size:=(aS.1 r.blk).1
def xE (a m:Nat) (ao:Option Addr) (k:Nat):Prop:=k=a\/k=m\/∃g,ao=some ⟨g,0,none⟩/\k=g
theorem Raw.kept (r:Raw ts te w a m ao cap n h) {K:Nat->Prop} (c:aH K w w') (hK:∀k,xE a m ao k->¬K k):Raw ts te w' a m ao cap n h:=by
 refine⟨(c.block a r.alt (hK a (.inl rfl))).trans r.blk,?_,?_,r.am,r.ag,r.ok,r.top⟩
 ·rcases r.row with h0 | ⟨g,cur,rfl,hr⟩
  ·exact .inl h0
  ·exact .inr ⟨g,cur,rfl,(c.block g hr.lt (hK g (.inr (.inr ⟨g,rfl,rfl⟩)))).trans hr.blk,hr.sz,hr.le,hr.max,hr.at_⟩
 ·have⟨D,ho,hp⟩:=r.pm;obtain⟨es,clock,hb,F⟩:=ho;exact⟨D,⟨es,clock,(c.block m (aS.1 hb).1 (hK m (.inr (.inl rfl)))).trans hb,F⟩,hp⟩
theorem Raw.below (r:Raw ts te w a m ao cap n h) (b:Z w w'):Raw ts te w' a m ao cap n h:=r.kept (K:=fun _=>False) (aH.of_below b _) (fun _ _ h=>h)
end
end A3
namespace A3
open Go.RowKit Ag
namespace Ag
def OL (e f:En):Bool:=decide (ahC e.id e.tm f.id f.tm<0)
end Ag
theorem xX.cell {w1 w2:ay} (hg:xX w1 w2) {p:Addr} (h:w1.cell? p=some v):w2.cell? p=some v:=(aH.of_below hg.below (fun _=>False)).cell h (fun h=>h)
def xX.al4 (h:xX w.drew w'):xX w w':=by
 obtain⟨q,os,rfl⟩:=h;refine⟨q+1,os,?_⟩;grind[World.drewN,World.drew]
def aoP {w1 w2:ay} (hg:xX w1 w2) {p1 p2 p3 p4 p5:Addr} {v1 v2 v3 v4 v5:Value} (h:w1.cell? p1=some v1/\w1.cell? p2=some v2/\w1.cell? p3=some v3/\w1.cell? p4=some v4/\w1.cell? p5=some v5):
  w2.cell? p1=some v1/\w2.cell? p2=some v2/\w2.cell? p3=some v3/\w2.cell? p4=some v4/\w2.cell? p5=some v5:=
 ⟨hg.cell h.1,hg.cell h.2.1,hg.cell h.2.2.1,hg.cell h.2.2.2.1,hg.cell h.2.2.2.2⟩
section
variable {ts te:Nat} {w:ay} {a m g:Nat} {cap n:Nat} {h:Nat->En} {cur:Array Value}
def mG.of_heap (r:mG w te g cap n h cur) (e:w'.heap[g]?=w.heap[g]?):mG w' te g cap n h cur:=⟨e.trans r.blk,r.sz,r.le,r.max,r.at_⟩
def mG.ext (r:mG w te g cap n h cur) {h':Nat->En} (e:∀k,k<n->h' k=h k):mG w te g cap n h' cur:=⟨r.blk,r.sz,r.le,r.max,fun k hk d hd=>by grind[at_]⟩
def mG.Yr (r:mG w te g cap n h cur) (hi:i<n) (e:En):
  ∃cur',mG ((w.setCell ⟨g,i*2,none⟩ (J e.id)).setCell ⟨g,i*2+1,none⟩ (J e.tm)) te g cap n (upd h i e) cur':=by
 have h1:=Go.heap_setCell_same w g (i*2) cur te (J e.id) r.blk;have h2:=Go.heap_setCell_same _ g (i*2+1) _ te (J e.tm) h1;have hz:=r.sz;have hl:=r.le;refine⟨_,h2,by grind,hl,r.max,fun k hk d hd=>?_⟩;grind[upd,at_,En.cells]
def al5 (h:Nat->En) (i j:Nat):swp h i j=upd (upd h i (h j)) j (h i):=by
 grind[swp,upd]
theorem Bf (h:Nat->En) (i j:Nat):swp h i j i=h j:=by simp[swp]
theorem EA (h:Nat->En) (i j:Nat):swp h i j j=h i:=by grind[swp]
end
structure Mid (ts te:Nat) (w0:ay) (a m g cap n:Nat) (h:Nat->En) (D:DataW Unit) (w:ay):Prop where
 blk:w.heap[a]?=some (.cells #[.slice (some ⟨g,0,none⟩) n cap,.map (some m)] ts (0,0))
 row:∃cur,mG w te g cap n h cur
 own:w.ownsMap prog 3 (plainElem prog 3) m n D
 fF:aH (xE a m (some ⟨g,0,none⟩)) w0 w
section
variable {ts te:Nat} {w0 w:ay} {a m g cap n:Nat} {h:Nat->En} {D:DataW Unit}
theorem Mid.drew (r:Mid ts te w0 a m g cap n h D w):Mid ts te w0 a m g cap n h D w.drew:=⟨r.blk,r.row.elim fun c hc=>⟨c,hc.of_heap rfl⟩,r.own.drew,r.fF.drew⟩
def Mid.c0 (r:Mid ts te w0 a m g cap n h D w):w.cell? ⟨a,0,none⟩=some (.slice (some ⟨g,0,none⟩) n cap):=aj r.blk rfl
def Mid.c1 (r:Mid ts te w0 a m g cap n h D w):w.cell? ⟨a,1,none⟩=some (.map (some m)):=aj r.blk rfl
theorem Mid.cell (r:Mid ts te w0 a m g cap n h D w) (hk:k<n):w.cell? ⟨g,k*2,none⟩=some (J (h k).id):=r.row.elim fun _ hc=>(hc.cell hk).1
def tight {w:ay} {m n:Nat} {D:DataW Unit} (h:w.ownsMap prog 3 (plainElem prog 3) m n D):w.ownsMap prog 3 (plainElem prog 3) m (Maps.size D) D:=by
 obtain⟨es,clock,hb,F,_,rfl⟩:=h;exact⟨es,clock,hb,F,by simp[Maps.size,length_sorted],rfl⟩
def Mid.put (r:Mid ts te w0 a m g cap n h D w) (hn:n<maxLen) (hgm:g≠m) (ham:a≠m) {i:Int} (hi:QC i) (hk:QC k) (ht:Maps.size (D.put (K0 i) (V0 k))=n):
  ∃w',(Instr.mapUpdate 195 (.map (some m)) (J i) (J k)).run prog w=.ok () w'/\Mid ts te w0 a m g cap n h (D.put (K0 i) (V0 k)) w':=by
 have⟨w',hrun,ho,hturn⟩:=r.own.store (NH underlying3) underlying195 hn (NG underlying3 hi) (NI underlying3 hk);have hg:=hturn.grown;refine⟨w',hrun,(hg.block a (aS.1 r.blk).1 (fun e=>ham (ji e))).trans r.blk,?_,?_,r.fF.turned hturn (.inr (.inl rfl))⟩
 ·have⟨cur,hc⟩:=r.row;exact⟨cur,hc.of_heap (hg.block g hc.lt (fun e=>hgm (ji e)))⟩
 ·have:=tight ho;rwa [ht]at this
end
def wfN (h:k<=35184372088832):QC k:=by
 exact aoh
def PD.au4 {D:DataW Unit} {h:Nat->En} (p:PD D n h) (hj:j<n) (v:DataW Unit):Maps.size (D.put (K0 (h j).id) v)=n:=by
 grind[Maps.size_put,tidy,yes,size]
def aqS {h:Nat->En} {p:En->Prop} (ok:∀k,k<n->p (h k)) (hi:i<n) (hj:j<n):∀k,k<n->p (swp h i j k):=by
 grind[swp]
end A3
namespace A3
open Go.RowKit Ag
namespace Ag
theorem rZ (e f:En):OL e f=true↔e.tm<f.tm\/(e.tm=f.tm/\e.id<f.id):=by
 grind[OL,ahC,orV,kU]
def le (e f:En):Prop:=e.tm<f.tm\/(e.tm=f.tm/\e.id<=f.id)
theorem ZC (e f:En) (h:OL f e=false):le e f:=by
 grind[rZ,le]
theorem PY (e f:En) (h:OL e f=true):le e f:=by
 grind[rZ,le]
theorem le.trans {a b c:En} (h:le a b) (k:le b c):le a c:=by unfold le at *;omega
theorem le.refl (a:En):le a a:=by unfold le;omega
def par (k:Nat):Nat:=(k - 1) / 2
def Heap (h:Nat->En) (n:Nat):Prop:=∀k,0<k->k<n->le (h (par k)) (h k)
structure EB (h:Nat->En) (n p:Nat):Prop where
 ok:∀k,0<k->k<n->k≠p->le (h (par k)) (h k)
 up:∀k,0<k->k<n->par k=p->0<p->le (h (par p)) (h k)
structure Hole (h:Nat->En) (n p:Nat):Prop where
 ok:∀k,0<k->k<n->k≠p->par k≠p->le (h (par k)) (h k)
 up:∀k,0<k->k<n->par k=p->0<p->le (h (par p)) (h k)
structure Down (h:Nat->En) (n p:Nat):Prop where
 ok:∀k,0<k->k<n->par k≠p->le (h (par k)) (h k)
 up:∀k,0<k->k<n->par k=p->0<p->le (h (par p)) (h k)
theorem Down.hole {h:Nat->En} (d:Down h n p):Hole h n p:=⟨fun k a b _ c=>d.ok k a b c,d.up⟩
theorem Heap.upTo {h:Nat->En} (d:Heap h n) (p:Nat):EB h n p:=⟨fun k a b _=>d k a b,fun k a b c e=>by
 grind[par,le.trans,Heap]⟩
theorem EB.top {h:Nat->En} (d:EB h n 0):Heap h n:=fun k a b=>d.ok k a b ak
theorem EB.stop {h:Nat->En} (d:EB h n p) (hs:le (h (par p)) (h p)):Heap h n:=fun k a b=>by
 grind[ok]
theorem Q9 (h:0<k):par k<k:=by unfold par;omega
def EB.step {h:Nat->En} (d:EB h n p) (h0:0<p) (hp:p<n) (hs:le (h p) (h (par p))):EB (swp h (par p) p) n (par p):=by
 have at_:∀k,k≠par p->k≠p->swp h (par p) p k=h k:=by grind[swp]
 refine⟨fun k a b c=>?_,fun k a b c e=>?_⟩
 ·grind[Bf,EA,up,le.trans,ok]
 grind[par,ok,EA,le.trans]
def Ic (h:Nat->En) (n p c:Nat):Prop:=par c=p/\0<c/\c<n/\∀k,0<k->k<n->par k=p->le (h c) (h k)
def Hole.step {h:Nat->En} {n p c:Nat} (d:Hole h n p) (hc:Ic h n p c) (hs:le (h c) (h p)):Down (swp h p c) n c:=by
 obtain⟨c1,c2,c3,c4⟩:=hc;have at_:∀k,k≠p->k≠c->swp h p c k=h k:=by grind[swp]
 refine⟨fun k a b e=>?_,fun k a b e f=>?_⟩
 ·grind[Bf,EA,up,ok]
 grind[Bf,ok]
theorem Hole.stop {h:Nat->En} (d:Hole h n p) (hs:∀k,0<k->k<n->par k=p->le (h p) (h k)):EB h n p:=⟨fun k a b c=>by
 grind[ok],d.up⟩
theorem Down.stop {h:Nat->En} (d:Down h n p) (hs:∀k,0<k->k<n->par k=p->le (h p) (h k)):Heap h n:=fun k a b=>by
 grind[ok]
def Dl (h:Nat->En) (n p k:Nat):Prop:=(k=p/\Hole h n p)\/Down h n k
theorem Dl.hole {h:Nat->En} (s:Dl h n p k):Hole h n k:=by
 grind[Down.hole,Dl]
theorem Dl.stop {h:Nat->En} (s:Dl h n p k) (hs:∀j,0<j->j<n->par j=k->le (h k) (h j)):EB h n p:=by
 grind[Hole.stop,Down.stop,Heap.upTo,Dl]
def acN {h:Nat->En} {n p b c:Nat} (hb:b=2*p+1) (hc:c=b+1) (hbn:b<n) (hcn:¬c<n):Ic h n p b:=by
 grind[par,le.refl,Ic]
def Yt {h:Nat->En} {n p b c:Nat} (hb:b=2*p+1) (hc:c=b+1) (hcn:c<n) (hl:OL (h c) (h b)=false):Ic h n p b:=by
 grind[par,le.refl,ZC,Ic]
def U6 {h:Nat->En} {n p b c:Nat} (hb:b=2*p+1) (hc:c=b+1) (hcn:c<n) (hl:OL (h c) (h b)=true):Ic h n p c:=by
 grind[par,PY,le.refl,Ic]
def Same (h h':Nat->En) (n:Nat):Prop:=∀e,(∃k,k<n/\h k=e)↔∃k,k<n/\h' k=e
theorem Same.refl (h:Nat->En) (n:Nat):Same h h n:=fun _=>Iff.rfl
theorem Same.trans {h h' h'':Nat->En} (a:Same h h' n) (b:Same h' h'' n):Same h h'' n:=fun e=>(a e).trans (b e)
theorem Same.swp (h:Nat->En) (hi:i<n) (hj:j<n):Same h (swp h i j) n:=fun e=>by
 constructor
 ·rintro ⟨k,hk,rfl⟩;by_cases e1:k=i
  ·exact ⟨j,hj,by rw[EA,e1]⟩
  ·by_cases e2:k=j
   ·exact ⟨i,hi,by rw[Bf,e2]⟩
   ·exact ⟨k,hk,by simp[Ag.swp,e1,e2]⟩
 ·rintro ⟨k,hk,rfl⟩;unfold Ag.swp;split
  ·grind
  ·split
   ·grind
   grind
end Ag
structure Way (ts te:Nat) (w:ay) (a m:Nat) (ao:Option Addr) (cap n:Nat) (h:Nat->En) (w':ay) (h':Nat->En):Prop where
 raw:Raw ts te w' a m ao cap n h'
 same:Same h h' n
 fF:aH (xE a m ao) w w'
section
variable {ts te:Nat} {w w1 w2:ay} {a m:Nat} {ao:Option Addr} {cap n:Nat} {h h1 h2:Nat->En}
def Way.grew (r:Way ts te w a m ao cap n h w1 h1) (g:xX w1 w2):Way ts te w a m ao cap n h w2 h1:=⟨r.raw.below g.below,r.same,r.fF.trans (aH.of_below g.below (fun _=>False)) (fun _ _ h=>h.elim)⟩
def Way.swap (r:Way ts te w a m ao cap n h w1 h1) (hi:i<n) (hj:j<n) (k:Raw ts te w2 a m ao cap n (swp h1 i j)) (c:aH (xE a m ao) w1 w2):Way ts te w a m ao cap n h w2 (swp h1 i j):=
 ⟨k,r.same.trans (Same.swp h1 hi hj),r.fF.trans c (fun _ _ h=>h)⟩
theorem Way.trans (r:Way ts te w a m ao cap n h w1 h1) (k:Way ts te w1 a m ao cap n h1 w2 h2):Way ts te w a m ao cap n h w2 h2:=⟨k.raw,r.same.trans k.same,r.fF.trans k.fF (fun _ _ h=>h)⟩
end
end A3
namespace A3
open Go.RowKit Ag
section
variable {te:Nat} {w:ay} {g:Nat} {cap l:Nat} {h:Nat->En} {cur:Array Value}
theorem mG.pop (r:mG w te g cap (l+1) h cur):mG w te g cap l h cur:=⟨r.blk,r.sz,by have:=r.le;omega,r.max,fun k hk d hd=>r.at_ k ak d hd⟩
def acO (sl te:TypeId) (hu:prog.underlying sl=some (.slice te)) (hz:∀w,(zeroValue te).run prog w=.ok (.agg #[J 0,J 0]) w) (r:mG w te g cap (l+1) h cur):
  ∃w' cur',(Builtin.clear_ #[sl] 0 #[.slice (some ⟨g,l*2,none⟩) 1 (cap - l)]).run prog w=.ok (.tuple #[]) w'/\mG w' te g cap l h cur'/\w.grownBy w' (some g):=by
 have⟨cur',hr⟩:=r.Yr (i:=l) ak ⟨0,0⟩;obtain⟨c0,c1,_⟩:=r.cell (k:=l) ak;refine⟨_,cur',?_,hr.pop.ext (fun k hk=>by grind[upd]),?_⟩
 ·have hzc:(Builtin.zeroCells (Value.agg #[J 0,J 0]).cells 1).toList= [J 0,J 0]:=by simp[Builtin.zeroCells,Value.cells];rfl
  have hs:=run_storeCells_cells (P:=prog) g (l*2) [J 0,J 0] 0 w (fun j hj=>by
   grind) (fun j _=>aD r.blk) (fun v hv=>by
    simp at hv
    rw[hv]
    rfl)
  simp[Builtin.clear_,rM hu,hz,hzc,hs];rfl
 ·refine ⟨rfl,rfl,rfl,by simp,fun k _ hk=>?_⟩;grind[gy]
end
namespace Ag
def al6 {h:Nat->En} {l p:Nat} (d:Heap h (l+1)) (hp:p<l):Hole (swp h p l) l p:=by
 have at_:∀k,k≠p->k<l->swp h p l k=h k:=by grind[swp]
 refine⟨fun k a b c e=>?_,fun k a b c e=>?_⟩
 ·have hk:=Q9 a;grind[Heap]
 grind[par,le.trans,swp,Heap]
def ahE {h:Nat->En} {l:Nat} (d:Heap h (l+1)):Heap (swp h l l) l:=fun k a b=>by
 grind[swp,Heap]
end Ag
end A3
end Go.Proofs.YtdhifkbbjlhcaaaGreatDoor
