import Derived.Test.YtdhifkbbjlhcaaaGreatDoorKz6
import Derived.Test.YtdhifkbbjlhcaaaGreatDoorKz18
import Derived.Test.YtdhifkbbjlhcaaaGreatDoorKz17
import Derived.Laws.OwnMore
import Derived.Deep.DeepAppendWide
set_option maxRecDepth 20000
set_option maxHeartbeats 2000000
set_option linter.defProp false
namespace Go.Proofs.YtdhifkbbjlhcaaaGreatDoor
open Go.Proofs.Tryz
variable {B d k:Nat} {T:TypeId} {W w:ay} {a f n u:Int} {ao:Option Addr} {cs:Array Value} {hd:Value->Array Value} {l:List Int} {v:Value} {vs:List Value}
namespace Lr
open Go.RowKit Wd Ld Cg _root_.Go.Proofs.YtdhifkbbjlhcaaaGreatDoor.Lr.Lg
theorem aj {b k:Nat} {e:TypeId} {f:Nat×Nat} (h:w.heap[b]?=some (.cells cs e f)) (hv:cs[k]?=some v):w.cell? ⟨b,k,none⟩=some v:=by
 grind[World.cell?]
theorem aD {b k:Nat} {e:TypeId} (h:w.heap[b]?=some (.cells cs e (0,0))):w.frozen? ⟨b,k,none⟩=false:=by
 grind[World.frozen?]
theorem aR {w w':ay} (b:Z w w') {a:Addr} (h:w.cell? a=some v):w'.cell? a=some v:=(b.cell (aU w _ h)).trans h
def mJ (w:ay) (l:List Value) (t:TypeId):∀j u,l[j]?=some u->(w.alloc (.cells l.toArray t)).cell? ((⟨w.heap.size,0,none⟩:Addr).add j)=some u:=by
 grind[Addr.add,aj,aK]
theorem alK (g o j:Nat):(⟨g,o,none⟩:Addr).add j=⟨g,o+j,none⟩:=by grind[Addr.add]
def aN (w:ay):Z w w.drew:=⟨rfl,rfl,rfl,aC _,fun _ _=>rfl⟩
theorem zM {W W':ay} {B e sz n:Nat} {us:List Value} (h:W.ownsRow B e sz v n us) (hg:∀k,v.ownBlock=some k->W'.heap[k]?=W.heap[k]?):W'.ownsRow B e sz v n us:=by
 exact ZH
theorem iG {B e sz n:Nat} (h:W.ownsRow B e sz v n vs):∀j,v.ownBlock=some j->∃cs,W.heap[j]?=some (.cells cs e (0,0)):=by
 exact aos
def bE {B e sz n:Nat} (h:w.ownsRow B e sz v n vs):∃ao c,v=.slice ao n c:=by
 rcases h.2 with⟨rfl,rfl⟩ | ⟨g,cap,cur,rfl,r⟩
 ·grind
 grind
def ahp {B e n:Nat} (h:W.ownsRow B e 1 v (n+1) vs):∃b cap,v=.slice (some ⟨b,0,none⟩) (n+1) cap/\n+1<=cap:=by
 rcases h.2 with⟨_,h0⟩ | ⟨b,cap,cur,h1,_,_,hc,_⟩
 ·omega
 grind
def KD (w:ay) (te sz:Nat):(w.alloc (.cells #[] te)).ownsRow w.heap.size te sz (.slice (some ⟨w.heap.size,0,none⟩) 0 0) 0 []:=⟨by simp,.inr ⟨w.heap.size,0,#[],rfl,aC _,aK w _,aC _,by decide,by simp,by simp⟩⟩
def jR {P:Program} {w:ay} {ops:Array Oper} {rest:List Oper} {o:Oper} {a:Act} {Q:Exit->Act->World->Prop} (hgd:o.guard=none) (s x:Operand) (t:TypeId)
  (ho:o.op=.call {callee:=.builtin .append,args:= #[s,x],argTypes:= #[t,t]})
  (base:Nat) (e:TypeId) (i:TypeInfo) (z:Value) (size bytes:Nat) (ht:P.underlying t=some (.slice e)) (hi:P.info? e=some i) (hz:i.zero=some z)
  (hsize:i.size=size) (hby:i.bytes=bytes) (hzs:z.cells.size=size) (hsz:0<size)
  (v:Value) (n:Nat) (xs:List Value) (hs:a.eval s=v) (hown:w.ownsRow base e size v n xs)
  (ao:Option Addr) (m c:Nat) (news:List Value) (hx:a.eval x=.slice ao m c) (hnil:ao=none->m=0/\c=0) (hl:news.length=m*size) (hnews:∀ad,ao=some ad->∀j u,news[j]?=some u->w.cell? (ad.add j)=some u) (h1:∀u∈news,u.oneCell'=true)
  (h63:n+m<=maxLen) (hbytes:((n+m)+(n+m) / 4+192)*bytes<=281474976710656) (hbase:base<=w.heap.size)
  (h:∀v' w',w'.ownsRow base e size v' (n+m) (xs++news)->w.grownBy w' v.ownBlock->wpList P ops Q rest (a.put o.dst v') w'):
  wpList P ops Q (o::rest) a w:=by
 cases ao with
 | none=>exact anJ
 | some ad=>grind[wpList_append_own_wide]
def fD (W:ay) (ao:Option Addr) (l:List Int):Prop:=∃g o,(0<l.length->ao=some ⟨g,o,none⟩)/\∀k n,l[k]?=some n->W.cell? ⟨g,o+k,none⟩=some (J n)
theorem fD.below {W W':ay} (h:fD W ao l) (b:Z W W'):fD W' ao l:=by
 grind[aR,fD]
def yR (l:List Int):List Value:=l.map (Value.int .u64)
def ahq (l:List Int):(yR l).length=l.length:=by simp[yR]
def ahr (l:List Int):∀u∈yR l,u.oneCell'=true:=by
 intro u hu;obtain⟨x,_,rfl⟩:=jH.1 hu;rfl
def aas (h:l[k]?=some u):(yR l)[k]?=some (O u):=by simp[yR,h]
def wP (W:ay) (ao:Option Addr) (l:List Int):Prop:=∃g o,(0<l.length->ao=some ⟨g,o,none⟩)/\∀k n,l[k]?=some n->W.cell? ⟨g,o+k,none⟩=some (O n)
theorem wP.below {W W':ay} (h:wP W ao l) (b:Z W W'):wP W' ao l:=by
 grind[aR,wP]
theorem wP.cells (h:wP W ao l):∀ad,ao=some ad->∀j u,(yR l)[j]?=some u->W.cell? (ad.add j)=some u:=by
 grind[alK,yR,wP]
def wP.aqD (h:W.ownsRow B 40 1 v l.length (yR l)):∃ao c,v=.slice ao l.length c/\wP W ao l/\(ao=none->l.length=0/\c=0):=by
 rcases h.2 with⟨rfl,h0⟩ | ⟨g,cap,cur,rfl,hb,hg,hnc,hcm,hcs,htake⟩
 ·exact ⟨none,0,by grind,⟨0,0,fun h=>by omega,fun k n hn=>by grind⟩,fun _=>⟨h0,rfl⟩⟩
 ·refine ⟨_,cap,rfl,⟨g,0,fun _=>rfl,fun k n hn=>?_⟩,fun h=>by grind⟩;have hk:=(bO.1 hn).1;rw[rJ,h.cellAt k ak,aas hn]
structure Hz (T:TypeId) (hd:Value->Array Value) (B:Nat) (W:ay) (d:Nat) (v:Value) (l:List Int):Prop where
 blk:W.heap[d]?=some (.cells (hd v) T (0,0))
 row:W.ownsRow B 40 1 v l.length (yR l)
 lo:B<=d
 wds:Kj l
 few:l.length<=1000000
def LK (d:Nat) (v:Value) (j:Nat):Prop:=j=d\/v.ownBlock=some j
def pH (n f:Int) (v:Value):Array Value:= #[v,J n,O f]
abbrev zi (n f:Int):=Hz 147 (pH n f)
section
variable {T:TypeId} {hd:Value->Array Value} {B:Nat} {W W':ay} {d:Nat} {v:Value} {l:List Int} {K:Nat->Prop}
theorem Hz.Ce (h:Hz T hd B W d v l):∀k,LK d v k->k<W.heap.size:=fun k hk=>by
 rcases hk with rfl | hk
 ·exact (aS.1 h.blk).1
 ·exact (h.row.lt k hk).2
theorem Hz.below (h:Hz T hd B W d v l) (b:Z W W'):Hz T hd B W' d v l:=
 ⟨(b.block d (aS.1 h.blk).1).trans h.blk,eG h.row b,h.lo,h.wds,h.few⟩
def Hz.shape (h:Hz T hd B W d v l):∃ao c,v=.slice ao l.length c/\wP W ao l/\(ao=none->l.length=0/\c=0):=wP.aqD h.row
def Hz.at (h:Hz T hd B W d v l) (hk:l[k]?=some u):∃g c,v=.slice (some ⟨g,0,none⟩) l.length c/\W.cell? ⟨g,k,none⟩=some (O u)/\W.frozen? ⟨g,k,none⟩=false:=by
 have hlt:=(bO.1 hk).1;rcases h.row.2 with⟨_,h0⟩ | ⟨g,cap,cur,rfl,r⟩
 ·omega
 ·exact ⟨g,cap,rfl,by rw[h.row.cellAt k ak,aas hk],h.row.frozenAt k⟩
def Hz.set (h:Hz T hd B W d v l) (hT:T≠40) {g k:Nat} {x:Int} (hx:Word x) (hg:v.ownBlock=some g):Hz T hd B (W.setCell ⟨g,k,none⟩ (O x)) d v (l.set k x)/\aH (LK d v) W (W.setCell ⟨g,k,none⟩ (O x)):=by
 rcases h.row.2 with⟨rfl,_⟩ | ⟨g',cap,cur,rfl,hb,hgg,r⟩
 ·grind[Value.ownBlock]
 ·simp[Value.ownBlock]at hg;subst hg;have hne:d≠g':=fun e=>by subst e;have:=h.blk;grind
  have hs:=h.row.stored k (O x);refine⟨⟨?_,?_,h.lo,?_,by simpa using h.few⟩,(aH.refl _ W).setCell _ _ (.inl (.inr rfl))⟩
  ·grind[gy,blk]
  ·grind[yR,List.map_set]
  ·intro u hu;rcases PO hu with y | rfl
   ·exact h.wds u y
   omega
end
def zi.c0 (h:zi n f B W d v l):W.cell? ⟨d,0,none⟩=some v:=aj h.blk rfl
def zi.c1 (h:zi n f B W d v l):W.cell? ⟨d,1,none⟩=some (J n):=aj h.blk rfl
def zi.c2 (h:zi n f B W d v l):W.cell? ⟨d,2,none⟩=some (O f):=aj h.blk rfl
def Tryz.ape:(prog.info? 40).map (fun i=>(i.zero,i.size,i.bytes))=some (some (O 0),1,8):=aF
end Lr
namespace Lr
open Go.RowKit Wd Ld Cg _root_.Go.Proofs.YtdhifkbbjlhcaaaGreatDoor.Lr.Lg
theorem ahs (h0:0<=a) (h1:a<l.length):Sg l a=true:=Jj.2 ⟨h0,h1⟩
def aqE (h0:¬0<=a):Sg l a=false:=by simp[Sg];omega
def aqF (h1:¬a<l.length):Sg l a=false:=by simp[Sg];omega
def aht (h:l[k]?=some u):FT l k=u:=by
 grind[FT,ahs]
def aqG (h:Sg l a=false):FT l a=0:=by unfold FT;grind
def Eu (h:zi n f B w d v l) (a:Int):
  Calls prog 140 #[.pointer (some ⟨d,0,none⟩),J a] w fun e w'=>e=.returned (.bool (Sg l a))/\w'=w:=by
 obtain⟨ao,c,rfl,_,_⟩:=h.shape;have c0:=h.c0;clear h;by_cases h0:0<=a
 ·by_cases h1:a<l.length
  ·rw[ahs h0 h1];exact Xc
  ·rw[aqF h1];exact Xc
 ·rw[aqE h0];exact Xc
def aat (h:zi n f B w d v l) (a:Int):
  Calls prog 96 #[.pointer (some ⟨d,0,none⟩),J a] w fun e w'=>e=.returned (O (FT l a))/\w'=w:=by
 have hh:=Eu h a
 cases hb:Sg l a with
 | false=>rw[aqG hb];rw[hb]at hh;exact aop
 | true=>rw[hb]at hh;have⟨h0,h1⟩:=Jj.1 hb;obtain⟨k,rfl⟩:∃k:Nat,a=k:=⟨a.toNat,by omega⟩;obtain⟨u,hu⟩:∃u,l[k]?=some u:=⟨_,aY ak⟩;rw[aht hu];obtain⟨g,c,rfl,hc,_⟩:=h.at hu;have c0:=h.c0;clear h hu;exact aop
def C_ {c:Nat} (h2:wP w ao l) (hn:ao=none->l.length=0/\c=0) (hf:l.length<=1000000):
  Calls prog 134 #[.slice ao l.length c] w fun e w'=>∃v,e=.returned v/\w'.ownsRow w.heap.size 40 1 v l.length (yR l)/\Z w w':=by
 cases ao with
 | none=>obtain⟨h0,rfl⟩:=hn rfl;have hl:=List.eq_nil_of_length_eq_zero h0;subst hl;simp only[jh];have hq:=fun w=>Fj (P:=prog) w 123 40 none 0 0 0 0 underlying123;go_enter func134,ntmps134;exact PZ
 | some ad=>
  have⟨i0,hi0,hz0,hz1,hz2⟩:=fA Tryz.ape;have b0:Z w (w.alloc (.cells #[] 40)):=(aI _ w).alloc (aC _) _;have hcell:=(h2.below b0).cells;have hfl:=ahq l;have⟨q,hq⟩:=aZ l.length;rw[hq]at hf hfl ⊢;have hq:=fun w=>Fj (P:=prog) w 123 40 (some ad) q c 0 0 underlying123;have Ug:Hid ((yR l).length=q*1):=show (yR l).length=q*1 by omega
  have HC:Hid _:=hcell;have HM:Hid _:=KD w 40 1;clear h2 hfl hcell hn;go_enter func134,ntmps134;go_wp2_with (at_builtin;refine jR rfl (.tmp 5) (.tmp 6) 123 rfl w.heap.size 40 i0 _ 1 8 underlying123 hi0 hz0 hz1 hz2 rfl aT (.slice (some ⟨w.heap.size,0,none⟩) 0 0) 0 [] rfl HM.out (some ad) q c (yR l) rfl (fun h=>by cases h) Ug.out HC.out (ahr l) ?_ ?_ ?_ ?_;exact(bM (m:=35184372088832) ak aT);omega;(simp);intro v' w5 hown hgr)
  exact ae4
end Lr
namespace Lr
open Go.RowKit Wd Ld Cg _root_.Go.Proofs.YtdhifkbbjlhcaaaGreatDoor.Lr.Lg
def alL {s n:Int} (hs:Word s) (hn:Word n):jF (s+n)=s+(if n<=18446744073709551615 - s then n else 18446744073709551615 - s):=by
 obtain⟨a,b⟩:=hs;obtain⟨c,d⟩:=hn;unfold jF;split<;>split<;>omega
def alM (h:zi n f B w d v l) {xs:List Int} {c:Nat} (hA:fD w ao xs) (hl:xs.length<=140737488355328):
  Calls prog 117 #[.pointer (some ⟨d,0,none⟩),.slice ao xs.length c] w fun e w'=>e=.returned (O (g_ l xs 0))/\w'=w:=by
 have⟨q,hq⟩:=aZ xs.length;obtain⟨g,o,hg,hc⟩:=hA;rw[hq]at hg hl ⊢;have hw:=h.wds;have ho:=aat h;have HL:Hid (zi n f B w d v l):=h;clear h;go_enter func117,ntmps117;go_wp2;go_loopg [5,10] q (fun gk ps pj wr=>∃(j:Nat) (s:Int),j+gk=q/\pj=J j/\ps=O s/\Word s/\w=wr/\g_ l xs 0=g_ l (xs.drop j) s)
 case atStart=>exact⟨0,0,by omega,rfl,rfl,wd0,rfl,by simp⟩
 case round=>
  obtain⟨j,s,hj,rfl,rfl,hs,rfl,hinv⟩:=hrel;by_cases hlt:j<q
  ·have hlt':(j:Int)<q:=ak;obtain⟨a,ha⟩:∃a,xs[j]?=some a:=⟨_,aY ak⟩;obtain rfl:=hg ak;have d0:=hc j a ha;rw[afD ha]at hinv;have hx:=Tz hw a;have hoa:=ho a;have hm:=alL hs hx;have hs2:Word (jF (s+FT l a)):=zy (by have:=hs.1;have:=hx.1;omega);generalize FT l a=u at hinv hx hoa hm hs2;have HI:Hid _:=hinv;have HS:Hid _:=hs2;obtain⟨s0,s1⟩:=hs;obtain⟨x0,x1⟩:=hx;clear hc hg ha hinv hs2 ho;by_cases hcmp:u<=18446744073709551615 - s
   ·rw[aJ hcmp]at hm;exact anK
   ·rw[au hcmp]at hm;exact anK
  ·obtain rfl:j=q:=ak;have e:Hid (g_ l xs 0=s):=show g_ l xs 0=s by rw[hinv,vY ak];rfl
   clear hinv;go_wp2;go_ret;exact⟨by rw[e.out];rfl,rfl⟩
end Lr
namespace Lr
open Go.RowKit Wd Ld Cg _root_.Go.Proofs.YtdhifkbbjlhcaaaGreatDoor.Lr.Lg
def Hz.opened {B q:Nat} {W w1:ay} {v v':Value} (h:Hz T hd B W d v l) (hT:T≠40) (hf:l.length<1000000) (hset:(hd v).setIfInBounds q v'=hd v')
  (hrow:w1.ownsRow B 40 1 v' (l.length+1) (yR l++ [O 0])) (hg:(W.alloc (.cells #[O 0] 40)).grownBy w1 v.ownBlock) (hat:v'.ownBlock=v.ownBlock\/v'.ownBlock=some (W.alloc (.cells #[O 0] 40)).heap.size):
  w1.heap[d]?=some (.cells (hd v) T (0,0))/\Hz T hd B (w1.setCell ⟨d,q,none⟩ v') d v' (l++ [0])/\aH (LK d v) W (w1.setCell ⟨d,q,none⟩ v')/\(v'.ownBlock=v.ownBlock\/∃k,W.heap.size<=k/\v'.ownBlock=some k):=by
 have hdl:=h.Ce d (.inl rfl);have c1:=((aH.refl (LK d v) W).alloc _).trans (aH.uP (K:=LK d v) hg (fun k e=>.inl (.inr e))) (fun _ _ e=>e);have hdv:¬v.ownBlock=some d:=fun e=>by have⟨cs,hcs⟩:=iG h.row d e;rw[h.blk]at hcs;grind
 have hblk:=(hg.block d fE (fun e=>hdv e.symm)).trans ((iM _ _ _ hdl).trans h.blk);have aFT:¬v'.ownBlock=some d:=by grind[iG]
 refine⟨hblk,⟨?_,?_,h.lo,?_,by grind⟩,c1.setCell _ _ (.inl (.inl rfl)),?_⟩
 ·grind[bS]
 ·grind[yR,zM,gy]
 ·intro u hu;rcases pX.1 hu with x | x
  ·exact h.wds u x
  grind[wd0]
 ·rcases hat with e | e
  ·grind
  simp_all
def ahu (h:zi n f B w d v l) (hB:B<=w.heap.size) (hf:l.length<1000000):
  Calls prog 109 #[.pointer (some ⟨d,0,none⟩)] w fun e w'=>e=.returned (J l.length)/\∃v',zi n f B w' d v' (l++ [0])/\aH (LK d v) w w'/\(v'.ownBlock=v.ownBlock\/∃k,w.heap.size<=k/\v'.ownBlock=some k):=by
 have⟨i0,hi0,hz0,hz1,hz2⟩:=fA Tryz.ape;have⟨q,hq⟩:=aZ l.length;have hrow:=h.row;have hdl:=h.Ce d (.inl rfl);obtain⟨ao,c,hv,_,_⟩:=h.shape;have c0:=h.c0;have HH:Hid (zi n f B w d v l):=h;subst hv;rw[hq]at hrow hf c0 HH ⊢;have HQ:Hid (l.length=q):=hq;clear h hq;go_enter func109,ntmps109;go_wp2_with (at_builtin;refine JI _ rfl (.tmp 7) (.tmp 8) 123 rfl B 40 i0 _ 1 8 underlying123 hi0 hz0 hz1 hz2 rfl aT _ q (yR l) rfl (hrow.alloc _) ⟨w.heap.size,0,none⟩ 1 1 [O 0] rfl rfl (Co _ _ _) (fun u hu=>by simp at hu;subst hu;rfl) (bM (m:=35184372088832) ak aT) ak fE ?_;intro v' w1 hown hgr _ hat;have⟨b',c',e',l'⟩:=ahp hown;subst e';have hfin:=Hz.opened (q:=0) HH.out aT (by rw[HQ.out];omega) rfl (by rw[HQ.out];exact hown) hgr hat;have z0:=aj (k:=0) hfin.1 rfl;have z1:=aD (k:=0) hfin.1;have HF:Hid _:=hfin.2;clear hfin hown hgr hat)
 go_ret;exact⟨by simp,_,HF.out⟩
end Lr
namespace Lr
open Go.RowKit Wd Ld Cg _root_.Go.Proofs.YtdhifkbbjlhcaaaGreatDoor.Lr.Lg
def alN (h:0<=n):chV u n=chN u n:=by grind[chV,chN]
def alO {N a n:Int} (h:Sg l a=false):XC l N a n=120/\vO l N a n=l:=by
 grind[XC,vO]
def akm {N a n:Int} (h:Sg l a=true) (h2:¬(0<=n/\n<=N)):XC l N a n=1/\vO l N a n=l:=by
 grind[XC,vO]
def alP {N n:Int} (h:l[k]?=some u) (h0:0<=n) (h1:n<=N):XC l N k n=0/\vO l N k n=l.set k (chN u n):=by
 grind[Sg,XC,vO]
def Hz.wrote {W w2:ay} (h:Hz T hd B W d v l) (hT:T≠40) {g k:Nat} {x:Int} (hx:Word x) (hg:v.ownBlock=some g) (b:Below W.drew.heap.size W.drew w2):
  Hz T hd B (w2.setCell ⟨g,k,none⟩ (O x)) d v (l.set k x)/\aH (LK d v) W (w2.setCell ⟨g,k,none⟩ (O x)):=by
 have h2:=((h.below (aN W)).below b).set hT (k:=k) hx hg;exact⟨h2.1,((aH.of_below (aN W) (LK d v)).trans (aH.of_below b (LK d v)) (fun _ _ e=>e)).trans h2.2 (fun _ _ e=>e)⟩
def Yj (h:zi n f B w d v l) (hn:n<9223372036854775808) (a x:Int):
  Calls prog 188 #[.pointer (some ⟨d,0,none⟩),J a,J x] w fun e w'=>e=.returned (J (XC l n a x))/\zi n f B w' d v (vO l n a x)/\aH (LK d v) w w':=by
 have hh:=Eu h a
 cases hb:Sg l a with
 | false=>
  have⟨e1,e2⟩:=alO (N:=n) (n:=x) hb;rw[e1,e2];rw[hb]at hh;have HL:Hid (zi n f B w d v l):=h;clear h;go_enter func188,ntmps188;go_wp2_with fail
  refine hh.mono ?_;rintro e w1 ⟨rfl,rfl⟩;go_wp2;go_ret;exact⟨rfl,HL.out,aH.refl _ _⟩
 | true=>
  rw[hb]at hh;have c1:=h.c1;by_cases hx0:x<0
  ·exact anI
  ·by_cases hx1:n<x
   ·exact anI
   ·have⟨h0,h1⟩:=Jj.1 hb;obtain⟨k,rfl⟩:∃k:Nat,a=k:=⟨a.toNat,by omega⟩;obtain⟨u,hu⟩:∃u,l[k]?=some u:=⟨_,aY ak⟩;have⟨e1,e2⟩:=alP (N:=n) (n:=x) hu ak ak;rw[e1,e2];have jS:=h.wds.get hu;have hcc:=fun w=>XZ (n:=x) jS ak w;rw[alN ak]at hcc;have hwc:=TG jS (n:=x) ak;generalize chN u x=y at hcc hwc;obtain⟨g,cp,rfl,hc,hz⟩:=h.at hu;have c0:=h.c0;have HH:Hid (zi n f B w d (.slice (some ⟨g,0,none⟩) l.length cp) l):=h;have HD:Hid (zi n f B w.drew d (.slice (some ⟨g,0,none⟩) l.length cp) l):=show zi n f B w.drew d (.slice (some ⟨g,0,none⟩) l.length cp) l from h.below (aN w);have HWC:Hid _:=hwc;clear h hu jS hwc HD;go_enter func188,ntmps188;go_wp2_with fail
    refine hh.mono ?_;rintro e w1 ⟨rfl,rfl⟩;go_wp2_with fail
    go_region_with (first
     | (go_at_call 225;refine(hcc _).mono ?_;rintro e w2 ⟨rfl,b2⟩;have y0:=aR b2 c0;have y1:=aR b2 hc;have y2:=(b2.frozen (p:=⟨g,k,none⟩) (aU _ _ hc)).trans hz))
    all_goals (go_wp2;go_ret;exact⟨rfl,Hz.wrote HH.out aT HWC.out rfl b2⟩)
end Lr
namespace Lr
open Go.RowKit Wd Ld Cg _root_.Go.Proofs.YtdhifkbbjlhcaaaGreatDoor.Lr.Lg
def Hz.fresh {w w1:ay} (hw:Kj l) (hf:l.length<=1000000) (hrow:w1.ownsRow w.heap.size 40 1 v l.length (yR l)) (b:Z w w1):
  Hz T hd w.heap.size (w1.alloc (.cells (hd v) T)) w1.heap.size v l/\Z w (w1.alloc (.cells (hd v) T)):=
 ⟨⟨aK _ _,eG hrow ((aI _ w1).alloc (aC _) _),b.size,hw,hf⟩,b.alloc b.size _⟩
def uX (f:Int) (l:List Int) (j:Nat):List Int:=pK f (l.take j)++l.drop j
def acw (f:Int) (l:List Int) (j:Nat):(uX f l j).length=l.length:=by grind[uX,pK]
def ahv {j:Nat} (h:l[j]?=some u):(uX f l j)[j]?=some u:=by
 grind[uX,pK]
def acy {j:Nat} (h:l[j]?=some u):(uX f l j).set j (wE u f)=uX f l (j+1):=by
 grind[uX,pK,List.set_append_right,tu,Zz]
def Yk (f:Int) (l:List Int):uX f l 0=l:=by simp[uX,pK]
def acz:uX f l l.length=pK f l:=by simp[uX]
def ahw (h:zi n f B w d v l) (hff:Word f):
  Calls prog 190 #[.pointer (some ⟨d,0,none⟩)] w fun e w'=>e=.returned (.tuple #[])/\zi n f B w' d v (pK f l)/\aH (LK d v) w w':=by
 have⟨q,hq⟩:=aZ l.length;have hwl:=h.wds;have azQ:=h.few;rw[← acz];obtain⟨ao,cp,hv,_,_⟩:=h.shape;have c0:=h.c0;rw[← Yk f l]at h;subst hv;rw[hq]at h c0 azQ ⊢;have HH:Hid _:=h;have HWL:Hid _:=hwl;clear h hwl;go_enter func190,ntmps190;go_wp2;clear c0;go_loopg [10] q (fun gk pj wr=>∃j:Nat,j+gk=q/\pj=J j/\zi n f B wr d (.slice ao q cp) (uX f l j)/\aH (LK d (.slice ao q cp)) w wr)
 case atStart=>exact⟨0,by omega,rfl,HH.out,aH.refl _ _⟩
 case round=>
  obtain⟨j,hj,rfl,hL,hC⟩:=hrel;by_cases hlt:j<q
  ·have hlt':(j:Int)<q:=ak;obtain⟨u,hu⟩:∃u,l[j]?=some u:=⟨_,aY ak⟩;have jS:=Kj.get HWL.out hu;have hju:=ahv (f:=f) hu;have hset:=acy (f:=f) hu;have⟨g,cp',hv,hc,hz⟩:=hL.at hju;rw[acw,hq]at hv
   cases hv;have c0:=zi.c0 hL;have c2:=zi.c2 hL;have hcc:=fun w=>agI jS hff w;have hwy:=ab4 jS hff;generalize wE u f=y at hcc hwy hset;have HL:Hid (zi n f B wr d (.slice (some ⟨g,0,none⟩) q cp) (uX f l j)):=hL;have HC:Hid _:=hC;have HS:Hid _:=hset;have HWY:Hid _:=hwy;clear hL hC hset hwy jS hju hu HH;go_wp2_with fail
   go_region_with (first
    | (go_at_call 227;refine(hcc _).mono ?_;rintro e w2 ⟨rfl,b2⟩;have y0:=aR b2 c0;have y1:=aR b2 c2;have y2:=aR b2 hc;have y3:=(b2.frozen (p:=⟨g,j,none⟩) (aU _ _ hc)).trans hz))
   all_goals
    have hwr:=Hz.wrote HL.out aT HWY.out rfl b2 (k:=j)
    rw[HS.out]at hwr
    have HWR:Hid _:=hwr
    clear hwr
    go_wp2
    go_roundg (q - (j+1))
    case measure=>omega
    case rel=>exact⟨j+1,by omega,rfl,HWR.out.1,HC.out.trans HWR.out.2 (fun _ _ e=>e)⟩
  ·obtain rfl:j=q:=ak;have HL:Hid (zi n f B wr d (.slice ao j cp) (uX f l j)):=hL;have HC:Hid _:=hC;clear hL hC;go_wp2;go_end0
   exact⟨rfl,HL.out,HC.out⟩
end Lr
namespace Lr
open Go.RowKit Wd Ld Cg _root_.Go.Proofs.YtdhifkbbjlhcaaaGreatDoor.Lr.Lg
def Ev (c:Cf):Int:=(nA (QF c.period c.half):Nat)
def Ud (c:Cf):Word (Ev c):=Gb _
def xV {c:Cf} (h:gq c=0):nJ c:=by
 grind[gq]
def alQ {c:Cf} (r:nJ c):¬aqn c.period c.half:=by
 obtain⟨_,_,_,_,_,_,_,_,_,_,_,_,_,_,_,_⟩:=r;unfold aqn;omega
def aau {c:Cf} (h:¬gq c=0) (ao:Option Addr) (m cp:Nat) (w:ay):
  Calls prog 78 #[gY c,.slice ao m cp] w fun e w'=>e=.returned (.tuple #[.pointer none,J (gq c)])/\Z w w':=by
 have c1:=jA c;have hn:(gq c != 0)=true:=by simp[h]
 generalize gq c=q at *;unfold gY at *;have hS:=St.new w c;go_enter func78,ntmps78;go_wp2_with fail
 refine(c1 _).mono ?_;rintro e w1 ⟨rfl,b1⟩;replace hS:=keepW hS b1;clear b1;go_wp2;go_ret2
 exact⟨rfl,hS.dQ⟩
def alR {c:Cf} (h:gq c=0) {cp:Nat} (hT:Tab w) (hA:wP w ao l) (hw:Kj l) (hn:ao=none->l.length=0/\cp=0) (hm:l.length<=64):
  Calls prog 78 #[gY c,.slice ao l.length cp] w fun e w'=>∃d v,e=.returned (.tuple #[.pointer (some ⟨d,0,none⟩),J 0])/\zi c.nodes (Ev c) w.heap.size w' d v l/\Z w w':=by
 have c1:=jA c;rw[h]at c1;have r:=xV h;have hf:=fun w hT=>Ut (alQ r) w hT;have hfz:((nA (QF c.period c.half):Nat):Int)=Ev c:=rfl;rw[hfz]at hf;have HN:Hid (ao=none->l.length=0/\cp=0):=hn;have HW:Hid (Kj l):=hw;have hm':¬(64:Int)<l.length:=ak;generalize Ev c=F at *;unfold gY at *;have hS:=St.new w c;clear hn hw;go_enter func78,ntmps78;go_wp2_with fail
 refine(c1 _).mono ?_;rintro e w1 ⟨rfl,b1⟩;replace hS:=keepW hS b1;clear b1;obtain⟨s0,s1,s2,s3,s4,s5,s6,s7,_,_⟩:=id hS;go_wp2_with fail
 refine(hf _ (Tab.below hS.dQ hT)).mono ?_;rintro e w2 ⟨rfl,b2⟩;replace hS:=keepW hS b2;clear b2 s0 s1 s2 s3 s4 s5 s6 s7;go_wp2_with fail
 have hS2:=keepW hS (aN w2);have hc:=C_ (c:=cp) (hA.below hS2.dQ) HN.out ak;have S0:Hid _:=hS2;clear hS hS2;go_region_held3 (fun w'=>w'.cell? ⟨w.heap.size,0,none⟩=some (J c.nodes)) (first | exact(id S0.out).1 | exact(id S1).1 | exact fU _ (id S1).1)
  (first
  | (go_at_call 134;refine hc.mono ?_;rintro e w3 ⟨v3,rfl,r3,b3⟩;have⟨ao3,c3,e3⟩:=bE r3;subst e3;have S1:=keepW S0.out b3))
 all_goals
  go_wp2
  go_ret2
  have hfr:=Hz.fresh (w:=w) (T:=147) (hd:=pH c.nodes F) HW.out ak (iL r3 (St.dQ S0.out).size) (St.dQ S1)
  exact⟨_,_,rfl,hfr.1,hfr.2⟩
end Lr
end Go.Proofs.YtdhifkbbjlhcaaaGreatDoor
