import Derived.Test.YtdhifkbbjlhcaaaGreatDoorKz30
import Derived.Test.YtdhifkbbjlhcaaaGreatDoorKz35
import Derived.Test.YtdhifkbbjlhcaaaGreatDoorKz2
import Derived.Deep.DrawnRows
import Derived.Deep.RegionLaw
set_option maxRecDepth 20000
set_option maxHeartbeats 2000000
set_option linter.defProp false
namespace Go.Proofs.YtdhifkbbjlhcaaaGreatDoor
open Go.Proofs.Tryz
variable {B c m r:Nat} {L:List (Option (Nat×Int))} {W W' w:ay} {ao:Option Addr} {fr now:Int} {h x:Pq.Pr.Wt} {l:List Pq.Pr.Wt} {rs:List Pq.Pr.Rn} {s:Pq.Pr.Ps} {v vr vs:Value}
namespace Pq
open Go.RowKit Pr
def wtV (r:Wt):Value:=.agg #[J r.job,J r.nd,J r.lm]
def Vw (x:Wt) (hr:w.cell? ⟨r,0,none⟩=some (J fr)):
  Calls prog 343 #[.pointer (some ⟨r,0,none⟩),wtV x] w fun e w'=>e=.returned (.bool (decide (x.nd<=fr)))/\Z w w':=by
 have⟨w1,hw1⟩:=aZ (w.alloc (.cells #[J x.job,J x.nd,J x.lm] 200));have hbl:Z w w1:=by rw[← hw1];exact(aI _ w).alloc (aC _) _
 have hr1:=(hbl.cell (aU w _ hr)).trans hr;have hx:w1.cell? ⟨w.heap.size,1,none⟩=some (J x.nd):=by rw[← hw1];exact iQ w rfl
 clear hr;unfold wtV;go_enter func343,ntmps343;go_wp2;go_quiet (fail)
 all_goals
  go_wp2
  go_ret
  refine⟨Vi dF,hbl.trans ((aN _ _).mono hbl.size)⟩
def Vx (x:Wt) (hr:w.heap[r]?=some (.cells #[J fr] 331 (0,0))) (h0:0<=fr) (h1:fr<=1152921504606846976) (h2:0<=x.nd) (h3:x.nd<=256):
  Calls prog 344 #[.pointer (some ⟨r,0,none⟩),wtV x] w fun e w'=>e=.returned (.tuple #[])/\w'.heap[r]?=some (.cells #[J (fr - x.nd)] 331 (0,0))/\aH (fun i=>i=r) w w':=by
 have⟨w1,hw1⟩:=aZ (w.alloc (.cells #[J x.job,J x.nd,J x.lm] 200));have hbl:Z w w1:=by rw[← hw1];exact(aI _ w).alloc (aC _) _
 have hlt:=(aS.1 hr).1;have hr1:=(hbl.block r hlt).trans hr;have hx:w1.cell? ⟨w.heap.size,1,none⟩=some (J x.nd):=by rw[← hw1];exact iQ w rfl
 have c1:=fK 0 hr1;have f1:w1.frozen? ⟨r,0,none⟩=false:=aD hr1;have HR:Hid _:=hr1;have HB:Hid _:=hbl;clear hr hr1 hbl;unfold wtV;go_enter func344,ntmps344;go_wp2;go_region
 go_end0
 refine⟨rfl,?_,?_⟩
 ·exact bS w1 r 0 _ 331 _ HR.out
 ·exact ((aH.of_below HB.out (fun i=>i=r)).setCell ⟨r,0,none⟩ _ (.inl rfl)).drew
def O1 (x:Wt) (now rG:Int) (w:ay) (h0:0<=now) (h1:now<=2199023255552) (h2:0<=x.lm) (h3:x.lm<=1048576):
  Calls prog 345 #[.agg #[J now,J rG],wtV x] w fun e w'=>e=.returned (.bool (decide (now+x.lm<=rG)))/\Z w w':=by
 have hbl:Z w ((w.alloc (.cells #[J now,J rG] 334)).alloc (.cells #[J x.job,J x.nd,J x.lm] 200)):=((aI _ w).alloc (aC _) _).alloc dF _;unfold wtV;go_enter func345,ntmps345;go_wp2;go_ret;exact⟨Vi dF,hbl⟩
def Rp (x:Wt) (now rG:Int) (w:ay):
  Calls prog 346 #[.agg #[J now,J rG],wtV x] w fun e w'=>e=.returned (.tuple #[])/\Z w w':=by
 have hbl:Z w ((w.alloc (.cells #[J now,J rG] 334)).alloc (.cells #[J x.job,J x.nd,J x.lm] 200)):=((aI _ w).alloc (aC _) _).alloc dF _;unfold wtV;go_enter func346,ntmps346;go_wp2;go_end0
 exact⟨rfl,hbl⟩
def Vy {j:Int} (hm:w.cell? ⟨m,4,none⟩=some (J j)):
  Calls prog 275 #[.pointer (some ⟨m,0,none⟩)] w fun e w'=>e=.returned (.bool (j != -1))/\w'=w:=by
 go_enter func275,ntmps275;exact mY
end Pq
namespace Pq
open Go.RowKit Pr
def adp (a:Addr) (w:ay):(method 497 299 (.pointer (some a)) "backfill/pass.lets").run prog w=.ok (343,.pointer (some a)) w:=aF
def Rq (a:Addr) (w:ay):(method 497 299 (.pointer (some a)) "backfill/pass.started").run prog w=.ok (344,.pointer (some a)) w:=aF
def YW (x y:Value) (w:ay):(method 497 334 (.agg #[x,y]) "backfill/pass.lets").run prog w=.ok (345,.agg #[x,y]) w:=aF
def Ns (x y:Value) (w:ay):(method 497 334 (.agg #[x,y]) "backfill/pass.started").run prog w=.ok (346,.agg #[x,y]) w:=aF
def aif (hr:w.cell? ⟨r,0,none⟩=some (J fr)) (h:x.nd<=fr):
  Calls prog 343 #[.pointer (some ⟨r,0,none⟩),.agg #[J x.job,J x.nd,J x.lm]] w fun e w'=>e=.returned (.bool true)/\Z w w':=by
 have:=Vw x hr;rwa [show decide (x.nd<=fr)=true from dS h]at this
def amu (hr:w.cell? ⟨r,0,none⟩=some (J fr)) (h:fr<x.nd):
  Calls prog 343 #[.pointer (some ⟨r,0,none⟩),.agg #[J x.job,J x.nd,J x.lm]] w fun e w'=>e=.returned (.bool false)/\Z w w':=by
 have:=Vw x hr;rwa [show decide (x.nd<=fr)=false from dH ak]at this
def EP (l:List Wt):List Value:=l.map fun w=>J w.job
def Dy (W:ay) (ao:Option Addr) (l:List Wt):Prop:=∃g o,(0<l.length->ao=some ⟨g,o,none⟩/\∃cs,W.heap[g]?=some (.cells cs 200 (0,0)))/\∀k r,l[k]?=some r->W.cell? ⟨g,o+k*3,none⟩=some (J r.job)/\W.cell? ⟨g,o+k*3+1,none⟩=some (J r.nd)/\W.cell? ⟨g,o+k*3+2,none⟩=some (J r.lm)
def Dy.keep (h:Dy W ao l) (hk:∀(g:Nat) (cs:Array Value),W.heap[g]?=some (.cells cs 200 (0,0))->W'.heap[g]?=W.heap[g]?):Dy W' ao l:=by
 obtain⟨g,o,h1,h2⟩:=h;by_cases hl:0<l.length
 ·have⟨ha,cs,hcs⟩:=h1 hl;have hg:=hk g cs hcs;refine⟨g,o,fun _=>⟨ha,cs,hg.trans hcs⟩,fun k r hr=>?_⟩;grind[SF]
 grind[Dy]
theorem gI {B e sz n:Nat} {vs:List Value} (h:W.ownsRow B e sz v n vs) {k:Nat} (hk:v.ownBlock=some k):B<=k/\∃cs,W.heap[k]?=some (.cells cs e (0,0)):=by
 rcases h.2 with⟨e,_⟩ | ⟨g,cap,cur,e,hg,hh,_⟩
 ·rw[e]at hk;cases hk
 grind[Value.ownBlock]
def iK {B e sz n:Nat} {vs:List Value} (h:W.ownsRow B e sz v n vs) (hk:∀k:Nat,v.ownBlock=some k->W'.heap[k]?=W.heap[k]?):W'.ownsRow B e sz v n vs:=by
 refine⟨h.1,?_⟩;rcases h.2 with h0 | ⟨g,cap,cur,rfl,hb,hg,r⟩
 ·grind
 ·exact .inr ⟨g,cap,cur,rfl,hb,(hk g rfl).trans hg,r⟩
structure Mc (B m r:Nat) (vr:Value) (ao:Option Addr) (c:Nat) (vs:Value) (now:Int) (s:Ps) (h:Wt) (l:List Wt) (W:ay):Prop where
 blk:W.heap[m]?=some (.cells #[J now,.pointer (some ⟨r,0,none⟩),vr,.slice ao l.length c,J h.job,J h.nd,J h.lm,vs] 301 (0,0))
 room:W.heap[r]?=some (.cells #[J s.fr] 331 (0,0))
 runs:W.ownsRow B 108 2 vr s.rs.length (fJ s.rs)
 starts:W.ownsRow B 3 1 vs s.st.length (EP s.st)
 wait:Dy W ao l
 lo:B<=m/\B<=r
def aW {i:Nat} {o:Obj} (h:W.heap[i]?=some o):i<W.heap.size:=(aS.1 h).1
def KM (B m r:Nat) (W:ay) (i:Nat):Prop:=i=m\/i=r\/(B<=i/\∃(cs:Array Value) (t:TypeId),(t=108\/t=3)/\W.heap[i]?=some (.cells cs t (0,0)))
section
variable {B m r c:Nat} {vr vs:Value} {ao:Option Addr} {now:Int} {s:Ps} {h:Wt} {l:List Wt} {W W':ay}
def Mc.keep (hM:Mc B m r vr ao c vs now s h l W) (hk:∀(i:Nat) (cs:Array Value) (t:TypeId),(t=301\/t=331\/t=108\/t=3\/t=200)->W.heap[i]?=some (.cells cs t (0,0))->W'.heap[i]?=W.heap[i]?):Mc B m r vr ao c vs now s h l W':=
 ⟨(hk _ _ _ dF hM.blk).trans hM.blk,(hk _ _ _ dF hM.room).trans hM.room,
  iK hM.runs (fun k e=>by obtain⟨_,cs,h⟩:=gI hM.runs e;grind),
  iK hM.starts (fun k e=>by obtain⟨_,cs,h⟩:=gI hM.starts e;grind),
  hM.wait.keep (fun g cs h=>hk g cs 200 dF h),hM.lo⟩
theorem Mc.below (hM:Mc B m r vr ao c vs now s h l W) (b:Z W W'):Mc B m r vr ao c vs now s h l W':=
 hM.keep (fun i _ _ _ hi=>b.block i (aW hi))
theorem Mc.cells (hM:Mc B m r vr ao c vs now s h l W):(W.cell? ⟨m,0,none⟩=some (J now)/\W.cell? ⟨m,1,none⟩=some (.pointer (some ⟨r,0,none⟩))/\W.cell? ⟨m,2,none⟩=some vr/\W.cell? ⟨m,3,none⟩=some (.slice ao l.length c))/\
  (W.cell? ⟨m,4,none⟩=some (J h.job)/\W.cell? ⟨m,5,none⟩=some (J h.nd)/\W.cell? ⟨m,6,none⟩=some (J h.lm)/\W.cell? ⟨m,7,none⟩=some vs):=
 ⟨⟨aj hM.blk rfl,aj hM.blk rfl,aj hM.blk rfl,aj hM.blk rfl⟩,aj hM.blk rfl,aj hM.blk rfl,aj hM.blk rfl,aj hM.blk rfl⟩
theorem KM.trans {w w1 w2:ay} (h1:aH (KM B m r w) w w1) (h2:aH (KM B m r w1) w1 w2):aH (KM B m r w) w w2:=by
 grind[aH.trans,aH.block,KM]
def KM.lo {i:Nat} (hM:Mc B m r vr ao c vs now s h l W) (hk:KM B m r W' i):B<=i:=by
 rcases hk with e | e | e
 ·rw[e];exact hM.lo.1
 ·rw[e];exact hM.lo.2
 omega
end
def adq (l:List Wt) (x:Wt):EP (l++ [x])=EP l++ [J x.job]:=by simp[EP]
def YX (l:List Rn) (x:Rn):fJ (l++ [x])=fJ l++ [J x.nd,J x.en]:=by rw[xu];rfl
def Tryz.aq8:(prog.info? 3).map (fun i=>(i.zero,i.size,i.bytes))=some (some (J 0),1,8):=aF
end Pq
namespace Pq
open Go.RowKit Pr
def iV {i j:Nat} {cs cs':Array Value} {t t':TypeId} (h:W.heap[i]?=some (.cells cs t (0,0))) (h':W.heap[j]?=some (.cells cs' t' (0,0))) (ht:t≠t'):i≠j:=fun e=>by
 grind
def YZ (hr:w.heap[r]?=some (.cells #[J fr] 331 (0,0))) (h0:0<=fr) (h1:fr<=1152921504606846976) (h2:0<=x.nd) (h3:x.nd<=256):
  Calls prog 344 #[.pointer (some ⟨r,0,none⟩),.agg #[J x.job,J x.nd,J x.lm]] w fun e w'=>e=.returned (.tuple #[])/\w'.heap[r]?=some (.cells #[J (fr - x.nd)] 331 (0,0))/\aH (fun i=>i=r) w w':=Vx x hr h0 h1 h2 h3
def yt {B e sz n:Nat} {vs:List Value} {W w1:ay} {o:Obj} (hr:W.ownsRow B e sz v n vs) (hg:((W.alloc o).drew).grownBy w1 v.ownBlock) (i:Nat) (cs:Array Value) (t:TypeId) (ht:t≠e) (hi:W.heap[i]?=some (.cells cs t (0,0))):w1.heap[i]?=W.heap[i]?:=by
 have e1:(W.alloc o).drew.heap[i]?=W.heap[i]?:=by grind[World.alloc,World.drew]
 refine(hg.block i (aW (e1.trans hi)) (fun e=>?_)).trans e1;obtain⟨_,cs',hk⟩:=gI hr e.symm;grind
def O3 {B e sz n m r:Nat} {vs:List Value} {W w1:ay} {o:Obj} (he:e=108\/e=3) (hr:W.ownsRow B e sz v n vs) (hg:((W.alloc o).drew).grownBy w1 v.ownBlock):aH (KM B m r W) W w1:=by
 refine⟨hg.os,hg.tape,hg.output,?_,fun i hi hn=>?_⟩
 ·have:=hg.size;grind[World.alloc,World.drew]
 ·have e1:(W.alloc o).drew.heap[i]?=W.heap[i]?:=iM _ _ _ hi;grind[World.grownBy.block,gI,KM]
section
variable {B m r c gg cap:Nat} {vr vs:Value} {ao:Option Addr} {now:Int} {s:Ps} {h:Wt} {l:List Wt} {W w1:ay} {o:Obj}
def Vz {e sz n:Nat} {v u:Value} {vl:List Value} {j:Nat} (ho:w1.ownsRow B e sz v n vl) (hm:v.ownBlock≠some m):(w1.setCell ⟨m,j,none⟩ u).ownsRow B e sz v n vl:=
 iK ho (fun k e=>gy _ _ _ _ (fun h=>hm (by grind)))
def Mc.run {x:Rn} (hM:Mc B m r vr ao c vs now s h l W)
  (hown:w1.ownsRow B 108 2 (.slice (some ⟨gg,0,none⟩) (s.rs.length+1) cap) (s.rs.length+1) (fJ s.rs++ [J x.nd,J x.en])) (hg:((W.alloc o).drew).grownBy w1 vr.ownBlock):
  Mc B m r (.slice (some ⟨gg,0,none⟩) (s.rs.length+1) cap) ao c vs now ⟨s.fr,s.rs++ [x],s.st⟩ h l (w1.setCell ⟨m,2,none⟩ (.slice (some ⟨gg,0,none⟩) (s.rs.length+1) cap))/\
  aH (KM B m r W) W (w1.setCell ⟨m,2,none⟩ (.slice (some ⟨gg,0,none⟩) (s.rs.length+1) cap))/\w1.cell? ⟨m,2,none⟩=some vr/\w1.frozen? ⟨m,2,none⟩=false:=by
 have kp:=yt hM.runs hg;have bm:=(kp m _ 301 aT hM.blk).trans hM.blk;have hgm:(Value.slice (some ⟨gg,0,none⟩) (s.rs.length+1) cap).ownBlock≠some m:=fun e=>by obtain⟨_,cs',hk⟩:=gI hown e;exact iV hk bm aT rfl
 have kp2:=fun i cs t ht1 ht2 hi=>(gy w1 ⟨m,2,none⟩ (.slice (some ⟨gg,0,none⟩) (s.rs.length+1) cap) i (iV hi hM.blk ht2)).trans (kp i cs t ht1 hi);refine⟨⟨bS w1 m 2 _ 301 _ bm,(kp2 _ _ _ aT aT hM.room).trans hM.room,?_,iK hM.starts (fun k e=>by obtain⟨_,cs,hk⟩:=gI hM.starts e;exact kp2 k cs 3 aT aT hk),hM.wait.keep (fun g cs hk=>kp2 g cs 200 aT aT hk),hM.lo⟩,(O3 (.inl rfl) hM.runs hg).setCell ⟨m,_,none⟩ _ (Or.inl (Or.inl rfl)),aj bm rfl,aD bm⟩;rw[tC,YX];exact Vz hown hgm
theorem Mc.told (hM:Mc B m r vr ao c vs now s h l W)
  (hown:w1.ownsRow B 3 1 (.slice (some ⟨gg,0,none⟩) (s.st.length+1) cap) (s.st.length+1) (EP s.st++ [J x.job])) (hg:((W.alloc o).drew).grownBy w1 vs.ownBlock):
  Mc B m r vr ao c (.slice (some ⟨gg,0,none⟩) (s.st.length+1) cap) now ⟨s.fr,s.rs,s.st++ [x]⟩ h l (w1.setCell ⟨m,7,none⟩ (.slice (some ⟨gg,0,none⟩) (s.st.length+1) cap))/\
  aH (KM B m r W) W (w1.setCell ⟨m,7,none⟩ (.slice (some ⟨gg,0,none⟩) (s.st.length+1) cap))/\w1.cell? ⟨m,7,none⟩=some vs/\w1.frozen? ⟨m,7,none⟩=false:=by
 have kp:=yt hM.starts hg;have bm:=(kp m _ 301 aT hM.blk).trans hM.blk;have hgm:(Value.slice (some ⟨gg,0,none⟩) (s.st.length+1) cap).ownBlock≠some m:=fun e=>by obtain⟨_,cs',hk⟩:=gI hown e;exact iV hk bm aT rfl
 have kp2:=fun i cs t ht1 ht2 hi=>(gy w1 ⟨m,7,none⟩ (.slice (some ⟨gg,0,none⟩) (s.st.length+1) cap) i (iV hi hM.blk ht2)).trans (kp i cs t ht1 hi);refine⟨⟨bS w1 m 7 _ 301 _ bm,(kp2 _ _ _ aT aT hM.room).trans hM.room,iK hM.runs (fun k e=>by obtain⟨_,cs,hk⟩:=gI hM.runs e;exact kp2 k cs 108 aT aT hk),?_,hM.wait.keep (fun g cs hk=>kp2 g cs 200 aT aT hk),hM.lo⟩,(O3 (.inr rfl) hM.starts hg).setCell ⟨m,_,none⟩ _ (Or.inl (Or.inl rfl)),aj bm rfl,aD bm⟩;rw[tC,adq];exact Vz hown hgm
end
def adr {now rG:Int} (h0:0<=now) (h1:now<=2199023255552) (h2:0<=x.lm) (h3:x.lm<=1048576) (h:now+x.lm<=rG):
  Calls prog 345 #[.agg #[J now,J rG],.agg #[J x.job,J x.nd,J x.lm]] w fun e w'=>e=.returned (.bool true)/\Z w w':=by
 have:=O1 x now rG w h0 h1 h2 h3;rwa [show decide (now+x.lm<=rG)=true from dS h]at this
def aii {now rG:Int} (h0:0<=now) (h1:now<=2199023255552) (h2:0<=x.lm) (h3:x.lm<=1048576) (h:rG<now+x.lm):
  Calls prog 345 #[.agg #[J now,J rG],.agg #[J x.job,J x.nd,J x.lm]] w fun e w'=>e=.returned (.bool false)/\Z w w':=by
 have:=O1 x now rG w h0 h1 h2 h3;rwa [show decide (now+x.lm<=rG)=false from dH ak]at this
def KM.aij {K:Nat->Prop} {w w1 w2:ay} (h1:aH (fun i=>KM B m r w i\/K i) w w1) (h2:aH (KM B m r w1) w1 w2):aH (fun i=>KM B m r w i\/K i) w w2:=by
 grind[aH.trans,aH.block,KM]
end Pq
namespace Pq
open Go.RowKit Pr
def ruV (now rG:Int):Option (Nat×Int)->Value
 | none=>.iface 334 (.agg #[J now,J rG])
 | some p=>.iface 299 (.pointer (some ⟨p.1,0,none⟩))
def ER (now rG:Int) (x:Wt):Option (Nat×Int)->Prop
 | none=>now+x.lm<=rG
 | some p=>x.nd<=p.2
abbrev wtB (x:Wt):Obj:=.cells #[J x.job,J x.nd,J x.lm] 200 (0,0)
abbrev rmB (f:Int):Obj:=.cells #[J f] 331 (0,0)
structure Rus (r:Nat) (fr:Int) (L:List (Option (Nat×Int))):Prop where
 two:L.length<=2
 h0:L[0]?=some (some (r,fr))
 one:∀(i k a:Nat) (f g:Int),L[i]?=some (some (a,f))->L[k]?=some (some (a,g))->i=k/\f=g
def pE (L:List (Option (Nat×Int))) (W:ay) (g:Nat->Int->Int):Prop:=∀(i a:Nat) (f:Int),L[i]?=some (some (a,f))->W.heap[a]?=some (rmB (g i f))
def u_ {B m r rb c:Nat} {now rG:Int} (hM:Mc B m r vr ao c vs now s h l W)
  (hrb:W.heap[rb]?=some (.cells (L.map (ruV now rG)).toArray 353 (0,0))) (hL:Rus r s.fr L) (hro:pE L W (fun _ f=>f))
  (hd:none∈L->1<=x.lm/\x.lm<=1048576/\0<=now/\now<=2199023255552)
  (hc:(∀y∈L,ER now rG x y)->(∀a f,some (a,f)∈L->f<=1152921504606846976)/\1<=x.nd/\x.nd<=256/\1<=x.lm/\x.lm<=1048576/\0<=now/\now<=2199023255552/\(s.rs.length+1)*16<=140737488355328/\s.st.length<=1000/\B<=W.heap.size):
  Calls prog 276 #[.pointer (some ⟨m,0,none⟩),.agg #[J x.job,J x.nd,J x.lm],.slice (some ⟨rb,0,none⟩) L.length L.length] W fun e W'=>
   e=.returned (.bool true)/\(∀y∈L,ER now rG x y)/\(∃yU vs',Mc B m r yU ao c vs' now (sw now s x) h l W')/\aH (fun i=>KM B m r W i\/∃f,some (i,f)∈L) W W'/\pE L W' (fun _ f=>f - x.nd)\/
   e=.returned (.bool false)/\(∃y∈L,¬ER now rG x y)/\Z W W':=by
 have⟨q,hq⟩:=aZ L.length;have⟨W1,hW1⟩:=aZ (W.alloc (.cells #[J x.job,J x.nd,J x.lm] 200));have b1:Z W W1:=by rw[← hW1];exact(aI _ W).alloc (aC _) _
 have Cb:Hid (W1.heap[W.heap.size]?=some (wtB x)):=by rw[← hW1];exact aK W _
 have Bu:Hid _:=hM.below b1;have HRB:Hid _:=(b1.block rb (aW hrb)).trans hrb;have MX:Hid (pE L W1 (fun _ f=>f)):=fun i a f e=>(b1.block a (aW (hro i a f e))).trans (hro i a f e);have HB1:Hid _:=b1;have HQ:Hid _:=hq;have HL:Hid _:=hL;have HDD:Hid (none∈L->1<=x.lm/\x.lm<=1048576/\0<=now/\now<=2199023255552):=hd;have HCC:Hid ((∀y∈L,ER now rG x y)->(∀a f,some (a,f)∈L->f<=1152921504606846976)/\1<=x.nd/\x.nd<=256/\1<=x.lm/\x.lm<=1048576/\0<=now/\now<=2199023255552/\(s.rs.length+1)*16<=140737488355328/\s.st.length<=1000/\B<=W.heap.size):=hc;have hq2:q<=2:=hq▸hL.two;have HNR:Hid (∀(i:Nat) (cs:Array Value) (t:TypeId),t≠331->W1.heap[i]?=some (.cells cs t (0,0))->¬ ∃f,some (i,f)∈L):=fun i cs t ht hi ⟨f,hf⟩=>by have⟨k,hk⟩:=kS hf;exact iV hi (MX.out k i f hk) ht rfl
 have ml:=adp;have ms:=Rq;have mdl:=YW;have mds:=Ns;have rc:∀ {j:Nat} {y:Option (Nat×Int)},L[j]?=some y->W1.cell? ⟨rb,j,none⟩=some (ruV now rG y):=fun {j y} hy=>aj HRB.out (by simp[hy]);have HRC:Hid _:= @rc;rw[hq];clear hM hrb b1 hro hq hL rc hd hc;go_enter func276,ntmps276;go_wp2;go_loopg [13] q (fun gk p wr=>∃j:Nat,j+gk=q/\p=J j/\(∀i y,i<j->L[i]?=some y->ER now rG x y)/\Z W1 wr)
 case atStart=>exact⟨0,by omega,rfl,fun i _ hi=>absurd hi (Nat.not_lt_zero _),aI _ _⟩
 case round=>
  obtain⟨j,hj,rfl,hok,hb⟩:=hrel;by_cases hlt:j<q
  ·have hlt':(j:Int)<q:=ak;obtain⟨y,hy⟩:∃y,L[j]?=some y:=⟨_,aY (by rw[HQ.out];exact hlt)⟩;have hc:=HRC.out hy;have c0:=(hb.cell (aU _ _ hc)).trans hc;have hbx:=(hb.block _ (aW Cb.out)).trans Cb.out;have k0:=fK 0 hbx;have k1:=fK 1 hbx;have k2:=fK 2 hbx;have Sn:Hid (∀i y,i<j->L[i]?=some y->ER now rG x y):=hok;have HY:Hid _:=hy;have nx:ER now rG x y->∀i z,i<j+1->L[i]?=some z->ER now rG x z:=fun h1 i z hi hz=>by
    by_cases e:i=j
    ·subst e;rw[HY.out]at hz
     cases hz;exact h1
    ·exact Sn.out i z ak hz
   have HNX:Hid _:=nx;clear hbx hok hc hy nx;have HW:Hid _:=hb
   cases y with
   | none=>
    simp only[ruV]at c0;have⟨x3,x4,n0,n1⟩:=HDD.out (dW HY.out);by_cases hd:now+x.lm<=rG
    ·go_wp2_with (go_at_call 345;refine(adr n0 n1 ak x4 hd).mono ?_;rintro e w' ⟨rfl,b2⟩)
     exact aoa
    ·have HD:Hid (¬ER now rG x none):=hd;go_wp2_with (go_at_call 345;refine(aii n0 n1 ak x4 (Int.not_le.1 HD.out)).mono ?_;rintro e w' ⟨rfl,b2⟩)
     exact aoc
   | some p=>
    obtain⟨a,f⟩:=p;simp only[ruV]at c0;have c1:=fK 0 ((hb.block _ (aW (MX.out j a f HY.out))).trans (MX.out j a f HY.out));by_cases hd:x.nd<=f
    ·go_wp2_with (go_at_call 343;refine(aif c1 hd).mono ?_;rintro e w' ⟨rfl,b2⟩)
     exact aoa
    ·have HD:Hid (¬ER now rG x (some (a,f))):=hd;go_wp2_with (go_at_call 343;refine(amu c1 (Int.not_le.1 HD.out)).mono ?_;rintro e w' ⟨rfl,b2⟩)
     exact aoc
  ·obtain rfl:j=q:=ak;go_wp2_with fail
   have HB:Hid _:=hb;have Sn:Hid (∀y∈L,ER now rG x y):=fun y hy=>by have⟨k,hk⟩:=kS hy;exact hok k y (by rw[← HQ.out];exact(bO.1 hk).1) hk
   have⟨few,x1,x2,x3,x4,n0,n1,hrs,hst,hB⟩:=HCC.out Sn.out;have HFW:Hid (∀a f,some (a,f)∈L->f<=1152921504606846976):=few;clear hb hok few HDD HCC;go_loopg [24] j (fun gk p w3=>∃k:Nat,k+gk=j/\p=J k/\pE L w3 (fun i f=>if i<k then f - x.nd else f)/\aH (fun i=>∃f,some (i,f)∈L) W1 w3)
   case atStart=>exact⟨0,by omega,rfl,fun i a f e=>(HB.out.block _ (aW (MX.out i a f e))).trans (MX.out i a f e),aH.of_below HB.out _⟩
   case round=>
    obtain⟨k,hk,rfl,hro,hch⟩:=hrel;by_cases hlt:k<j
    ·have hlt':(k:Int)<j:=ak;obtain⟨y,hy⟩:∃y,L[k]?=some y:=⟨_,aY (by rw[HQ.out];exact hlt)⟩;have c0:wr.cell? ⟨rb,k,none⟩=_:=hch.cell (HRC.out hy) (HNR.out _ _ _ aT HRB.out);have hbx:=(hch.block _ (aW Cb.out) (HNR.out _ _ _ aT Cb.out)).trans Cb.out;have k0:=fK 0 hbx;have k1:=fK 1 hbx;have k2:=fK 2 hbx;have HRX:Hid (pE L wr (fun i f=>if i<k then f - x.nd else f)):=hro;have HCH:Hid _:=hch;have HY:Hid _:=hy;clear hbx hro hch hy
     cases y with
     | none=>
      simp only[ruV]at c0;go_wp2_with (go_at_call 346;refine(Rp x now rG _).mono ?_;rintro e w' ⟨rfl,b2⟩)
      go_roundg (j - (k+1))
      case measure=>omega
      case rel=>
       refine⟨k+1,by omega,rfl,fun i a f e=>?_,HCH.out.trans (aH.of_below b2 _) (fun _ _ e=>e)⟩;have hik:i≠k:=fun h=>by rw[h,HY.out]at e;cases e
       have:=HRX.out i a f e;dsimp only;rw[show (if i<k+1 then f - x.nd else f)=if i<k then f - x.nd else f by split<;>split<;>omega];exact(b2.block a (aW this)).trans this
     | some p=>
      obtain⟨a,f⟩:=p;simp only[ruV]at c0;have f1:=HFW.out a f (dW HY.out);have f0:x.nd<=f:=Sn.out _ (dW HY.out);have hroom:wr.heap[a]?=some (rmB f):=(by have:=HRX.out k a f HY.out;dsimp only at this;rwa [au (Ct _)]at this);go_wp2_with (go_at_call 344;refine(YZ hroom ak f1 ak x2).mono ?_;rintro e w' ⟨rfl,hr2,ch2⟩)
      go_roundg (j - (k+1))
      case measure=>omega
      case rel=>
       refine⟨k+1,by omega,rfl,fun i b g e=>?_,HCH.out.trans ch2 (fun i _ e=>by subst e;exact⟨f,dW HY.out⟩)⟩
       have h2:=HRX.out i b g e;by_cases hik:i=k
       ·subst hik;rw[HY.out]at e
        cases e;dsimp only;rw[aJ (Nat.lt_succ_self _)];exact hr2
       ·dsimp only;rw[show (if i<k+1 then g - x.nd else g)=if i<k then g - x.nd else g by split<;>split<;>omega];exact(ch2.block b (aW h2) (fun h=>hik (by subst h;exact(HL.out.one i k b g f e HY.out).1))).trans h2
    ·obtain rfl:k=j:=ak;have HRX:Hid (pE L wr (fun _ f=>f - x.nd)):=fun i a f e=>by have:=hro i a f e;dsimp only at this;rwa [aJ (by rw[← HQ.out];exact(bO.1 e).1)]at this
     have kp:∀(i:Nat) (cs:Array Value) (t:TypeId),t≠331->W1.heap[i]?=some (.cells cs t (0,0))->wr.heap[i]?=W1.heap[i]?:=fun i cs t ht hi=>hch.block i (aW hi) (HNR.out i cs t ht hi);have BO:Hid (wr.heap[W.heap.size]?=some (wtB x)):=(kp _ _ _ aT Cb.out).trans Cb.out;have vS:Hid (Mc B m r vr ao c vs now ⟨s.fr - x.nd,s.rs,s.st⟩ h l wr):=
      ⟨(kp _ _ _ aT Bu.out.blk).trans Bu.out.blk,HRX.out 0 r s.fr HL.out.h0,
       iK Bu.out.runs (fun k e=>by obtain⟨_,cs,hk⟩:=gI Bu.out.runs e;exact kp k cs 108 aT hk),
       iK Bu.out.starts (fun k e=>by obtain⟨_,cs,hk⟩:=gI Bu.out.starts e;exact kp k cs 3 aT hk),
       Bu.out.wait.keep (fun g cs hk=>kp g cs 200 aT hk),Bu.out.lo⟩
     have Sq:Hid (aH (fun i=>KM B m r W i\/∃f,some (i,f)∈L) W wr):=(aH.of_below HB1.out _).trans hch (fun _ _ e=>.inr e);have avf:=Sq.out.size;have hwr:IntKind.i64.wrap (now+x.lm)=now+x.lm:=(by rw[fO];omega);have⟨i0,hi0,hz0,amw,hz2⟩:=fA Tryz.LV;clear hch hro ml ms mdl mds HRB Cb HB1 HB hW1 kp Bu HRC HNR MX;go_upto_region 12 with fail
     go_cut [] (fun wc=>∃yU,Mc B m r yU ao c vs now ⟨s.fr - x.nd,s.rs++ [rOf now x],s.st⟩ h l wc/\aH (fun i=>KM B m r W i\/∃f,some (i,f)∈L) W wc/\wc.heap[W.heap.size]?=some (wtB x)/\pE L wc (fun _ f=>f - x.nd))
     case first=>refine aG (S:=fun x'=>x'.heap[m]?=wr.heap[m]?/\x'.heap[W.heap.size]?=wr.heap[W.heap.size]?) (L:=19) aF ?_;have oQ:(fun x':World=>x'.heap[m]?=wr.heap[m]?/\x'.heap[W.heap.size]?=wr.heap[W.heap.size]?) wr.drew:=⟨rfl,rfl⟩;have HF:Hid (∀xx:ay,(xx.heap[m]?=wr.heap[m]?/\xx.heap[W.heap.size]?=wr.heap[W.heap.size]?)->xx.cell? ⟨m,2,none⟩=some vr/\xx.cell? ⟨W.heap.size,1,none⟩=some (J x.nd)/\xx.cell? ⟨m,0,none⟩=some (J now)/\xx.cell? ⟨W.heap.size,2,none⟩=some (J x.lm)/\True):=fun xx h=>⟨aj (h.1.trans vS.out.blk) rfl,aj (h.2.trans BO.out) rfl,aj (h.1.trans vS.out.blk) rfl,aj (h.2.trans BO.out) rfl,trivial⟩;refine tc [0,17,18,19] 0 ?_;refine tc [1,2,3,4,16,19] 1 ?_;refine tc [2,3,4,16,19] 2 ?_;refine tc [3,4,16,19] 3 ?_;refine tc [4,16,19] 4 ?_;refine tc [5,6,14,15,16,19] 5 ?_;refine tc [6,14,15,16,19] 6 ?_;refine tc [7,8,9,10,13,14,15,16,19] 7 ?_;refine tc [8,9,10,13,14,15,16,19] 8 ?_;refine tc [9,10,13,14,15,16,19] 9 ?_;refine tc [10,13,14,15,16,19] 10 ?_;refine tc [11,12,13,14,15,16,19] 11 ?_;refine tc [12,13,14,15,16,19] 12 ?_;refine tc [13,14,15,16,19] 13 ?_;refine tc [14,15,16,19] 14 ?_;refine last_one (i:=15) aF rfl ?_;intro K hK;go_simp;have uW:(fun x':World=>x'.heap[m]?=wr.heap[m]?/\x'.heap[W.heap.size]?=wr.heap[W.heap.size]?) (wr.drew.alloc (.cells #[J x.nd,J (now+x.lm)] 108)):=⟨iM _ _ _ (aW vS.out.blk),iM _ _ _ (aW BO.out)⟩;refine jE hK uW ?_;clear hK K;refine last_one (i:=16) aF rfl ?_;intro K hK;refine Cu _ iW _ _ _ iW B 108 i0 _ 2 16 underlying75 hi0 hz0 amw hz2 rfl ak vr s.rs.length (fJ s.rs) iW (Cv (w:=wr.drew) vS.out.runs _) ⟨wr.heap.size,0,none⟩ 1 1 [J x.nd,J (now+x.lm)] iW iW (vI (cs:= #[J x.nd,J (now+x.lm)]) (t:=108) (fr:=(0,0)) (aK wr.drew _)) Ci ak (bM (m:=35184372088832) ak aT) ak fE (wr.heap.size+1) dF ?_;intro gg cap w1 hown1 hgrow hat hlt;have⟨z1,z2,z3,z4⟩:=vS.out.run (x:=rOf now x) hown1 hgrow;have Z1:Hid _:=z1;have Z2:Hid _:=z2;have kp:=yt vS.out.runs hgrow;have HK:Hid (∀(i:Nat) (cs:Array Value) (t:TypeId),t≠108->wr.heap[i]?=some (.cells cs t (0,0))->w1.heap[i]?=wr.heap[i]?):=kp;refine hK.out _ _ (fun _=>⟨kp _ _ _ aT vS.out.blk,kp _ _ _ aT BO.out⟩) (fun _=>?_);have HS2:(fun x':World=>x'.heap[m]?=wr.heap[m]?/\x'.heap[W.heap.size]?=wr.heap[W.heap.size]?) w1:=⟨kp _ _ _ aT vS.out.blk,kp _ _ _ aT BO.out⟩;clear hK K kp z1 z2 hown1 hgrow hat uW oQ;refine tc [17,18,19] 17 ?_;refine tc [18,19] 18 ?_;refine last_one (i:=19) aF rfl ?_;intro K hK;go_simp;refine hK.out _ _ (fun h=>absurd rfl h) (fun _=>?_);clear hK K;refine aO aF ?_ _;go_wp2;go_meet;have st:∀ {i:Nat} {cs:Array Value} {t:TypeId},t≠108->t≠301->wr.heap[i]?=some (.cells cs t (0,0))->_:=fun {i cs t} h1 h2 hi=>(gy w1 ⟨m,2,none⟩ (.slice (some ⟨gg,0,none⟩) (s.rs.length+1) cap) i (iV hi vS.out.blk h2)).trans ((HK.out i cs t h1 hi).trans hi);exact⟨_,Z1.out,KM.aij Sq.out Z2.out,st aT aT BO.out,fun i a f e=>st aT aT (HRX.out i a f e)⟩
     case rest=>
      clear vS Sq BO HRX hwr i0 hi0 hz0 amw hz2 avf;obtain⟨yU,hM3,hC3,hb3,hx3⟩:=hcut;have⟨i0,hi0,hz0,amw,hz2⟩:=fA Tryz.aq8;have avf:=hC3.size;have yK:Hid _:=hM3;have HC3:Hid (aH (fun i=>KM B m r W i\/∃f,some (i,f)∈L) W wc):=hC3;have HB3:Hid _:=hb3;have HX3:Hid (pE L wc (fun _ f=>f - x.nd)):=hx3;clear hM3 hC3 hb3 hx3;go_upto_region 13 with fail
      go_cut [] (fun wd=>∃vs',Mc B m r yU ao c vs' now ⟨s.fr - x.nd,s.rs++ [rOf now x],s.st++ [x]⟩ h l wd/\aH (fun i=>KM B m r W i\/∃f,some (i,f)∈L) W wd/\pE L wd (fun _ f=>f - x.nd))
      case first=>refine aG (S:=fun x':World=>x'.heap[m]?=wc.heap[m]?/\x'.heap[W.heap.size]?=wc.heap[W.heap.size]?) (L:=11) aF ?_;have oQ:(fun x':World=>x'.heap[m]?=wc.heap[m]?/\x'.heap[W.heap.size]?=wc.heap[W.heap.size]?) wc.drew:=⟨rfl,rfl⟩;have HF:Hid (∀xx:ay,(xx.heap[m]?=wc.heap[m]?/\xx.heap[W.heap.size]?=wc.heap[W.heap.size]?)->xx.cell? ⟨m,7,none⟩=some vs/\xx.cell? ⟨W.heap.size,0,none⟩=some (J x.job)/\True):=fun xx h=>⟨aj (h.1.trans yK.out.blk) rfl,aj (h.2.trans HB3.out) rfl,trivial⟩;refine tc [0,9,10,11] 0 ?_;refine tc [1,2,3,4,8,11] 1 ?_;refine tc [2,3,4,8,11] 2 ?_;refine tc [3,4,8,11] 3 ?_;refine tc [4,8,11] 4 ?_;refine tc [5,6,7,8,11] 5 ?_;refine tc [6,7,8,11] 6 ?_;refine last_one (i:=7) aF rfl ?_;intro K hK;go_simp;have uW:(fun x':World=>x'.heap[m]?=wc.heap[m]?/\x'.heap[W.heap.size]?=wc.heap[W.heap.size]?) (wc.drew.alloc (.cells #[J x.job] 3)):=⟨iM _ _ _ (aW yK.out.blk),iM _ _ _ (aW HB3.out)⟩;refine jE hK uW ?_;clear hK K;refine last_one (i:=8) aF rfl ?_;intro K hK;refine Cu _ iW _ _ _ iW B 3 i0 _ 1 8 underlying36 hi0 hz0 amw hz2 rfl ak vs s.st.length (EP s.st) iW (Cv (w:=wc.drew) yK.out.starts _) ⟨wc.heap.size,0,none⟩ 1 1 [J x.job] iW iW (vI (cs:= #[J x.job]) (t:=3) (fr:=(0,0)) (aK wc.drew _)) Ci ak (bM (m:=35184372088832) ak aT) ak fE (wc.heap.size+1) dF ?_;intro gg cap w1 hown1 hgrow hat hlt;have⟨z1,z2,z3,z4⟩:=yK.out.told (x:=x) hown1 hgrow;have Z1:Hid _:=z1;have Z2:Hid _:=z2;have kp:=yt yK.out.starts hgrow;have HK:Hid (∀(i:Nat) (cs:Array Value) (t:TypeId),t≠3->wc.heap[i]?=some (.cells cs t (0,0))->w1.heap[i]?=wc.heap[i]?):=kp;have HS2:(fun x':World=>x'.heap[m]?=wc.heap[m]?/\x'.heap[W.heap.size]?=wc.heap[W.heap.size]?) w1:=⟨kp _ _ _ aT yK.out.blk,kp _ _ _ aT HB3.out⟩;refine jE hK HS2 ?_;clear hK K kp z1 z2 hown1 hgrow hat uW oQ;refine tc [9,10,11] 9 ?_;refine tc [10,11] 10 ?_;refine last_one (i:=11) aF rfl ?_;intro K hK;go_simp;refine hK.out _ _ (fun h=>absurd rfl h) (fun _=>?_);clear hK K;refine aO aF ?_ _;go_wp2;go_meet;exact⟨_,Z1.out,KM.aij HC3.out Z2.out,fun i a f e=>(gy _ _ _ _ (iV (HX3.out i a f e) yK.out.blk aT)).trans ((HK.out _ _ _ aT (HX3.out i a f e)).trans (HX3.out i a f e))⟩
      case rest=>obtain⟨vs',hM4,hC4,hx4⟩:=hcut;have HM4:Hid _:=hM4;have HC4:Hid _:=hC4;have HX4:Hid (pE L _ (fun _ f=>f - x.nd)):=hx4;clear hM4 hC4 hx4 yK HC3 HX3;go_wp2;go_ret;exact .inl ⟨rfl,Sn.out,⟨yU,vs',HM4.out⟩,HC4.out,HX4.out⟩
section
variable {B m r rb c u:Nat} {vr vs:Value} {ao:Option Addr} {now rG ex:Int} {s:Ps} {h:Wt} {l:List Wt} {W:ay} {x:Wt}
def aaQ:Rus r ex [some (r,ex)]:=⟨by simp,rfl,fun i k a f g h1 h2=>by grind⟩
def ail:Rus r ex [some (r,ex),none]:=⟨by simp,rfl,fun i k a f g h1 h2=>by grind⟩
def amx (hu:u≠r):Rus r fr [some (r,fr),some (u,ex)]:=⟨by simp,rfl,fun i k a f g h1 h2=>by grind⟩
def Gy (h:W.heap[r]?=some (rmB ex)) (hL:∀a f,some (a,f)∈L->a=r/\f=ex):pE L W (fun _ f=>f):=fun i a f e=>by
 grind
abbrev ads (m rb q:Nat) (x:Wt) (W:ay) (K:Ending->World->Prop):Prop:=Calls prog 276 #[.pointer (some ⟨m,0,none⟩),.agg #[J x.job,J x.nd,J x.lm],.slice (some ⟨rb,0,none⟩) q q] W K
def ET (hM:Mc B m r vr ao c vs now s h l W) (hrb:W.heap[rb]?=some (.cells #[.iface 299 (.pointer (some ⟨r,0,none⟩))] 353 (0,0)))
  (hx:x.nd<=s.fr) (x1:1<=x.nd) (x2:x.nd<=256) (x3:1<=x.lm) (x4:x.lm<=1048576) (n0:0<=now) (n1:now<=2199023255552) (f1:s.fr<=256)
  (hrs:(s.rs.length+1)*16<=140737488355328) (hst:s.st.length<=1000) (hB:B<=W.heap.size):
  ads m rb 1 x W fun e W'=>e=.returned (.bool true)/\(∃yU vs',Mc B m r yU ao c vs' now (sw now s x) h l W')/\aH (KM B m r W) W W':=by
 refine(u_ (L:= [some (r,s.fr)]) (rG:=0) hM hrb aaQ (Gy hM.room dF) (fun h=>by omega) (fun _=>⟨by grind,x1,x2,x3,x4,n0,n1,hrs,hst,hB⟩)).mono ?_;grind[aH.mono,ER,KM]
def EU (hM:Mc B m r vr ao c vs now s h l W) (hrb:W.heap[rb]?=some (.cells #[.iface 299 (.pointer (some ⟨r,0,none⟩))] 353 (0,0)))
  (hnx:s.fr<x.nd):ads m rb 1 x W fun e W'=>e=.returned (.bool false)/\Z W W':=by
 refine(u_ (L:= [some (r,s.fr)]) (rG:=0) hM hrb aaQ (Gy hM.room dF) (fun h=>by grind) (fun hy=>absurd (hy _ (.head _)) (Int.not_le.2 hnx))).mono ?_;rintro e w (⟨_,hy,_⟩ | ⟨h1,_,h2⟩)
 ·exact absurd (hy _ (.head _)) (Int.not_le.2 hnx)
 grind
def ain (hM:Mc B m r vr ao c vs now s h l W) (hrb:W.heap[rb]?=some (.cells #[.iface 299 (.pointer (some ⟨r,0,none⟩)),.iface 334 (.agg #[J now,J rG])] 353 (0,0)))
  (x1:1<=x.nd) (x2:x.nd<=256) (x3:1<=x.lm) (x4:x.lm<=1048576) (n0:0<=now) (n1:now<=2199023255552)
  (hc:x.nd<=s.fr->now+x.lm<=rG->s.fr<=256/\(s.rs.length+1)*16<=140737488355328/\s.st.length<=1000/\B<=W.heap.size):
  ads m rb 2 x W fun e W'=>e=.returned (.bool true)/\(x.nd<=s.fr/\now+x.lm<=rG)/\(∃yU vs',Mc B m r yU ao c vs' now (sw now s x) h l W')/\aH (KM B m r W) W W'\/
   e=.returned (.bool false)/\¬(x.nd<=s.fr/\now+x.lm<=rG)/\Z W W':=by
 refine(u_ (L:= [some (r,s.fr),none]) (rG:=rG) hM hrb ail (Gy hM.room dF) (fun _=>⟨x3,x4,n0,n1⟩) (fun hy=>?_)).mono ?_
 ·have⟨f1,hrs,hst,hB⟩:=hc (hy _ (.head _)) (hy none dF);grind
 rintro e w (⟨h1,hy,h2,h3,_⟩ | ⟨h1,⟨y,hy,hn⟩,h2⟩)
 ·refine .inl ⟨h1,⟨hy _ (.head _),hy none dF⟩,h2,h3.mono (fun i _ hi=>hi.elim id (fun ⟨f,hf⟩=>.inr (.inl ?_)))⟩;grind
 grind[ER]
def aio (hM:Mc B m r vr ao c vs now s h l W) (hrb:W.heap[rb]?=some (.cells #[.iface 299 (.pointer (some ⟨r,0,none⟩)),.iface 299 (.pointer (some ⟨u,0,none⟩))] 353 (0,0))) (hu:W.heap[u]?=some (.cells #[J ex] 331 (0,0))) (hur:u≠r)
  (x1:1<=x.nd) (x2:x.nd<=256) (x3:1<=x.lm) (x4:x.lm<=1048576) (n0:0<=now) (n1:now<=2199023255552) (ex1:ex<=1152921504606846976)
  (hc:x.nd<=s.fr->x.nd<=ex->s.fr<=256/\(s.rs.length+1)*16<=140737488355328/\s.st.length<=1000/\B<=W.heap.size):
  ads m rb 2 x W fun e W'=>e=.returned (.bool true)/\(x.nd<=s.fr/\x.nd<=ex)/\(∃yU vs',Mc B m r yU ao c vs' now (sw now s x) h l W')/\aH (fun i=>KM B m r W i\/i=u) W W'/\W'.heap[u]?=some (.cells #[J (ex - x.nd)] 331 (0,0))\/
   e=.returned (.bool false)/\¬(x.nd<=s.fr/\x.nd<=ex)/\Z W W':=by
 refine(u_ (L:= [some (r,s.fr),some (u,ex)]) (rG:=0) hM hrb (amx hur) (fun i a f e=>?_) (fun h=>by omega) (fun hy=>?_)).mono ?_
 ·grind[Mc.room]
 ·have⟨f1,hrs,hst,hB⟩:=hc (hy _ (.head _)) (hy _ (.tail _ (.head _)));grind
 rintro e w (⟨h1,hy,h2,h3,h4⟩ | ⟨h1,⟨y,hy,hn⟩,h2⟩)
 ·refine .inl ⟨h1,⟨hy _ (.head _),hy _ (.tail _ (.head _))⟩,h2,h3.mono (fun i _ hi=>hi.elim .inl (fun ⟨f,hf⟩=>?_)),h4 1 u ex rfl⟩;grind[KM]
 grind[ER]
end
end Pq
namespace Pq
open Go.RowKit Pr
def Mc.qC (hM:Mc B m r vr ao c vs now s h l W) (o:Obj):Mc B m r vr ao c vs now s h l (W.drew.alloc o):=
 hM.below ((BN (aI _ W)).alloc (aC _) o)
structure OkW (x:Wt):Prop where
 j:0<=x.job
 n1:1<=x.nd
 n2:x.nd<=256
 l1:1<=x.lm
 l2:x.lm<=1048576
def FD {now free:Int} (hg:Pr.Good now free rs s) (hf:free<=256) (hn:rs.length*16+4096<=140737488355328) (hx:x.nd<=s.fr) (h1:1<=x.nd):s.fr<=256/\(s.rs.length+1)*16<=140737488355328/\s.st.length<=1000:=by
 have e1:=hg.fr;have e2:=Je hg.pos;have e3:s.rs.length=rs.length+s.st.length:=by rw[hg.rs];simp
 omega
def JC (hm:w.cell? ⟨m,4,none⟩=some (J (-1))):Calls prog 275 #[.pointer (some ⟨m,0,none⟩)] w fun e w'=>e=.returned (.bool false)/\w'=w:=Vy hm
def EW {j:Int} (hm:w.cell? ⟨m,4,none⟩=some (J j)) (hj:j≠ -1):Calls prog 275 #[.pointer (some ⟨m,0,none⟩)] w fun e w'=>e=.returned (.bool true)/\w'=w:=by
 have:=Vy hm;rwa [show (j != -1)=true by simpa using hj]at this
def agm {v4 v5 v6 v1:Value} (h:W.cell? ⟨m,4,none⟩=some v4/\W.cell? ⟨m,5,none⟩=some v5/\W.cell? ⟨m,6,none⟩=some v6/\W.cell? ⟨m,1,none⟩=some v1) (b:Z W W'):
  W'.cell? ⟨m,4,none⟩=some v4/\W'.cell? ⟨m,5,none⟩=some v5/\W'.cell? ⟨m,6,none⟩=some v6/\W'.cell? ⟨m,1,none⟩=some v1:=
 ⟨(b.cell (aU W _ h.1)).trans h.1,(b.cell (aU W _ h.2.1)).trans h.2.1,(b.cell (aU W _ h.2.2.1)).trans h.2.2.1,(b.cell (aU W _ h.2.2.2)).trans h.2.2.2⟩
def Mc.four (hM:Mc B m r vr ao c vs now s h l W):
  W.cell? ⟨m,4,none⟩=some (J h.job)/\W.cell? ⟨m,5,none⟩=some (J h.nd)/\W.cell? ⟨m,6,none⟩=some (J h.lm)/\W.cell? ⟨m,1,none⟩=some (.pointer (some ⟨r,0,none⟩)):=
 ⟨aj hM.blk rfl,aj hM.blk rfl,aj hM.blk rfl,aj hM.blk rfl⟩
def Gz (hM:Mc B m r vr ao c vs now s h l W) (hj:h.job= -1):
  Calls prog 233 #[.pointer (some ⟨m,0,none⟩)] W fun e W'=>e=.returned (.tuple #[])/\Z W W':=by
 have⟨⟨m0,m1,m2,m3⟩,m4,m5,m6,m7⟩:=hM.cells;rw[hj]at m4;have HM:Hid _:=hM;clear hM;go_enter func233,ntmps233;go_upto_region 0 with fail
 go_quiet ((go_at_call 275;exact Calls.quiet_of_same (JC (by first | assumption | exact m4))))
 all_goals
  go_wp2
  go_end0
  exact⟨rfl,aN W _⟩
def Mc.hold (hM:Mc B m r vr ao c vs now s h l W) (x:Wt):
  Mc B m r vr ao c vs now s x l (((W.setCell ⟨m,4,none⟩ (J x.job)).setCell ⟨m,5,none⟩ (J x.nd)).setCell ⟨m,6,none⟩ (J x.lm))/\aH (KM B m r W) W (((W.setCell ⟨m,4,none⟩ (J x.job)).setCell ⟨m,5,none⟩ (J x.nd)).setCell ⟨m,6,none⟩ (J x.lm)):=by
 have e1:=bS W m 4 _ 301 (J x.job) hM.blk;have e2:=bS _ m 5 _ 301 (J x.nd) e1;have e3:=bS _ m 6 _ 301 (J x.lm) e2;have kp:∀(i:Nat) (cs:Array Value) (t:TypeId),t≠301->W.heap[i]?=some (.cells cs t (0,0))->(((W.setCell ⟨m,4,none⟩ (J x.job)).setCell ⟨m,5,none⟩ (J x.nd)).setCell ⟨m,6,none⟩ (J x.lm)).heap[i]?=W.heap[i]?:=fun i cs t ht hi=>by have hne:=iV hi hM.blk ht;exact(gy _ _ _ _ hne).trans ((gy _ _ _ _ hne).trans (gy _ _ _ _ hne))
 refine⟨⟨e3,(kp _ _ _ aT hM.room).trans hM.room,?_,?_,hM.wait.keep (fun g cs hk=>kp g cs 200 aT hk),hM.lo⟩,?_⟩
 ·exact aov
 ·exact aou
 ·exact (((aH.refl (KM B m r W) W).setCell ⟨m,4,none⟩ _ (Or.inl (Or.inl rfl))).setCell ⟨m,5,none⟩ _ (Or.inl (Or.inl rfl))).setCell ⟨m,6,none⟩ _ (Or.inl (Or.inl rfl))
def LW (hM:Mc B m r vr ao c vs now s h l W) (hj:h.job≠ -1) (hx:s.fr<h.nd):
  Calls prog 233 #[.pointer (some ⟨m,0,none⟩)] W fun e W'=>e=.returned (.tuple #[])/\Z W W':=by
 have⟨⟨m0,m1,m2,m3⟩,m4,m5,m6,m7⟩:=hM.cells;have HM:Hid _:=hM;clear hM;go_enter func233,ntmps233;go_upto_region 0 with fail
 go_region_held3 (fun x'=>x'.cell? ⟨m,4,none⟩=some (J h.job)/\x'.cell? ⟨m,5,none⟩=some (J h.nd)/\x'.cell? ⟨m,6,none⟩=some (J h.lm)/\x'.cell? ⟨m,1,none⟩=some (.pointer (some ⟨r,0,none⟩)))
  (first | exact⟨m4,m5,m6,m1⟩ | exact⟨bK m4 _,bK m5 _,bK m6 _,bK m1 _⟩ | assumption | exact agm lV b2)
  (first | (go_at_call 275;refine(EW (j:=h.job) (by assumption:_/\_).1 hj).mono ?_;rintro e w' ⟨rfl,rfl⟩) | (go_at_call 276;refine(EU (HM.out.qC _) (aK W.drew _) hx).mono ?_;rintro e w' ⟨rfl,b2⟩))
 all_goals
  go_wp2
  go_end0
  exact⟨rfl,((aN W 1).alloc (aC _) _).trans (b2.mono dF)⟩
def I6 {now free:Int} (hM:Mc B m r vr ao c vs now s h l W) (ho:OkW h) (hx:h.nd<=s.fr) (n0:0<=now) (n1:now<=2199023255552)
  (hg:Pr.Good now free rs s) (hf:free<=256) (hn:rs.length*16+4096<=140737488355328) (hB:B<=W.heap.size):
  Calls prog 233 #[.pointer (some ⟨m,0,none⟩)] W fun e W'=>e=.returned (.tuple #[])/\(∃yU vs',Mc B m r yU ao c vs' now (sw now s h) noW l W')/\aH (KM B m r W) W W':=by
 have⟨⟨m0,m1,m2,m3⟩,m4,m5,m6,m7⟩:=hM.cells;have HM:Hid _:=hM;have⟨g1,g2,g3⟩:=FD hg hf hn hx ho.n1;have hj:h.job≠ -1:=by have:=ho.j;omega
 have HC:=ET (HM.out.qC (.cells #[.iface 299 (.pointer (some ⟨r,0,none⟩))] 353)) (aK W.drew _) hx ho.n1 ho.n2 ho.l1 ho.l2 n0 n1 g1 g2 g3 fE;clear hM hg hn g2;go_enter func233,ntmps233;go_upto_region 0 with fail
 go_cut [17] (fun p wc=>p=.bool true/\(∃yU vs',Mc B m r yU ao c vs' now (sw now s h) h l wc)/\aH (KM B m r W) W wc)
 case first=>
  go_region_held3 (fun x'=>x'.cell? ⟨m,4,none⟩=some (J h.job)/\x'.cell? ⟨m,5,none⟩=some (J h.nd)/\x'.cell? ⟨m,6,none⟩=some (J h.lm)/\x'.cell? ⟨m,1,none⟩=some (.pointer (some ⟨r,0,none⟩)))
   (first | exact⟨m4,m5,m6,m1⟩ | exact⟨bK m4 _,bK m5 _,bK m6 _,bK m1 _⟩ | assumption | exact z3)
   (first | (go_at_call 275;refine(EW (j:=h.job) (by assumption:_/\_).1 hj).mono ?_;rintro e w' ⟨rfl,rfl⟩) | (go_at_call 276;refine HC.mono ?_;rintro e w' ⟨rfl,⟨yU,vs',z1⟩,z2⟩;have z3:=z1.four))
  all_goals
   go_wp2
   go_meet
   exact⟨rfl,⟨_,_,z1⟩,KM.trans (aH.of_below ((BN (aI _ W)).alloc (aC _) _) _) z2⟩
 case rest=>
  obtain⟨rfl,⟨yU,vs',hM2⟩,hC2⟩:=hcut;have c4:=aj hM2.blk (k:=4) rfl;have c5:=aj hM2.blk (k:=5) rfl;have c6:=aj hM2.blk (k:=6) rfl;have f4:=aD hM2.blk (k:=4);have f5:=aD hM2.blk (k:=5);have f6:=aD hM2.blk (k:=6);have vS:Hid _:=hM2;have Sq:Hid _:=hC2;clear hM2 hC2 HC HM m0 m1 m2 m3 m4 m5 m6 m7;go_wp2;go_end0
  exact⟨rfl,⟨_,_,(vS.out.hold noW).1⟩,KM.trans Sq.out (vS.out.hold noW).2⟩
end Pq
namespace Pq
open Go.RowKit Pr
def amy (h:x.nd<=s.fr):kQ now s noW (x::l)=kQ now (sw now s x) noW l:=by
 grind[kQ,iZ,noW]
def ara (h:s.fr<x.nd) (hj:x.job≠ -1):kQ now s noW (x::l)=kQ now s x l:=by
 grind[kQ,iZ,noW]
def Mc.next {B m r c g o:Nat} (hM:Mc B m r vr (some ⟨g,o,none⟩) c vs now s h (x::l) W) (hc:l.length+1<=c):
  Mc B m r vr (if c=1 then some ⟨g,o,none⟩else some ⟨g,o+3,none⟩) (c - 1) vs now s h l (W.setCell ⟨m,3,none⟩ (.slice (if c=1 then some ⟨g,o,none⟩else some ⟨g,o+3,none⟩) l.length (c - 1)))/\
  aH (KM B m r W) W (W.setCell ⟨m,3,none⟩ (.slice (if c=1 then some ⟨g,o,none⟩else some ⟨g,o+3,none⟩) l.length (c - 1))):=by
 have e1:=bS W m 3 _ 301 (.slice (if c=1 then some ⟨g,o,none⟩else some ⟨g,o+3,none⟩) l.length (c - 1)) hM.blk;have kp:∀(i:Nat) (cs:Array Value) (t:TypeId),t≠301->W.heap[i]?=some (.cells cs t (0,0))->(W.setCell ⟨m,3,none⟩ (.slice (if c=1 then some ⟨g,o,none⟩else some ⟨g,o+3,none⟩) l.length (c - 1))).heap[i]?=W.heap[i]?:=fun i cs t ht hi=>gy _ _ _ _ (iV hi hM.blk ht);refine⟨⟨e1,(kp _ _ _ aT hM.room).trans hM.room,?_,?_,?_,hM.lo⟩,?_⟩
 ·exact aov
 ·exact aou
 ·refine Dy.keep (W:=W) ?_ (fun g cs hk=>kp g cs 200 aT hk);have⟨g',o',h1,h2⟩:=hM.wait;have⟨ha,cs,hcs⟩:=h1 dF;have hab:=ji ha;simp only[Addr.mk.injEq,and_true]at hab;obtain⟨rfl,rfl⟩:=hab;refine⟨g,o+3,fun hl=>⟨au ak,cs,hcs⟩,fun k y hk=>?_⟩;have:=h2 (k+1) y (by simpa using hk);rw[show o+(k+1)*3=o+3+k*3 by omega]at this;exact this
 ·exact (aH.refl (KM B m r W) W).setCell ⟨m,3,none⟩ _ (Or.inl (Or.inl rfl))
def avg {m q:Nat} {v4 v5 v6 v1:Value} (h:W.cell? ⟨q,0,none⟩=some v4/\W.cell? ⟨q,1,none⟩=some v5/\W.cell? ⟨q,2,none⟩=some v6/\W.cell? ⟨m,1,none⟩=some v1) (b:Z W W'):
  W'.cell? ⟨q,0,none⟩=some v4/\W'.cell? ⟨q,1,none⟩=some v5/\W'.cell? ⟨q,2,none⟩=some v6/\W'.cell? ⟨m,1,none⟩=some v1:=
 ⟨(b.cell (aU W _ h.1)).trans h.1,(b.cell (aU W _ h.2.1)).trans h.2.1,(b.cell (aU W _ h.2.2.1)).trans h.2.2.1,(b.cell (aU W _ h.2.2.2)).trans h.2.2.2⟩
def VA {B m r b:Nat} {cs:Array Value} (hM:Mc B m r vr ao c vs now s h l W) (hC:aH (KM B m r W) W W') (hb:W.heap[b]?=some (.cells cs 200 (0,0))):W'.heap[b]?=some (.cells cs 200 (0,0)):=by
 refine(hC.block b (aW hb) (fun e=>?_)).trans hb;rcases e with e | e | ⟨_,cs',t,ht,hk⟩
 ·exact iV hb hM.blk aT e
 ·exact iV hb hM.room aT e
 grind
def Dz {now free:Int} (hM:Mc B m r vr ao c vs now s h l W) (n0:0<=now) (n1:now<=2199023255552)
  (hg:Pr.Good now free rs s) (hf:free<=256) (hn:rs.length*16+4096<=140737488355328) (hB:B<=W.heap.size) (hh:h.job= -1->h=noW) (hl:∀x∈l,OkW x) (hc:l.length<=c) (hc2:c<=maxLen):
  Calls prog 234 #[.pointer (some ⟨m,0,none⟩)] W fun e W'=>e=.returned (.tuple #[])/\
   (∃yU Da c' vs',Mc B m r yU Da c' vs' now (kQ now s h l).1 (kQ now s h l).2.1 (kQ now s h l).2.2 W')/\aH (KM B m r W) W W':=by
 go_enter func234,ntmps234;go_wp2;go_loopg [] l.length (fun gk wr=>∃s' h' l' yU Da c' vs',l'.length=gk/\Mc B m r yU Da c' vs' now s' h' l' wr/\aH (KM B m r W) W wr/\kQ now s h l=kQ now s' h' l'/\Pr.Good now free rs s'/\(h'.job= -1->h'=noW)/\(∀x∈l',OkW x)/\l'.length<=c'/\c'<=maxLen)
 case atStart=>exact⟨s,h,l,vr,ao,c,vs,rfl,hM,aH.refl _ _,rfl,hg,hh,hl,hc,hc2⟩
 case round=>
  obtain⟨s',h',l',yU,Da,c',vs',hgk,hM',hC',hp,hg',hh',hl',hcc,avh⟩:=hrel;clear hM hg hh hl hc hc2;have⟨⟨m0,m1,m2,m3⟩,m4,m5,m6,m7⟩:=hM'.cells
  cases l' with
  | nil=>
   have HE:Hid (kQ now s h l=(s',h',[])):=by
    rw[hp];unfold kQ;by_cases hj:h'.job= -1
    ·rw[au (fun e=>e hj),hh' hj];exact rfl
    ·rw[aJ hj];exact rfl
   have HM:Hid _:=hM';have HC:Hid _:=hC';clear hp hM' hC' hg' hh' hl';simp only[jh]at m3;go_wp2_with fail
   go_end0
   exact⟨rfl,⟨_,_,_,_,by rw[HE.out];exact HM.out⟩,HC.out⟩
  | cons x l2=>
   by_cases hj:h'.job= -1
   ·obtain rfl:=hh' hj;have⟨g,o,hga,hcl⟩:=hM'.wait;obtain⟨rfl,cs,hcs⟩:=hga dF;have⟨x0,x1,x2⟩:=hcl 0 x rfl;simp only[ND,Nat.add_zero]at x0 x1 x2;have xo:=hl' x dF;simp only[dK]at hcc m3;have f3:=aD hM'.blk (k:=3);have⟨zb,hzb⟩:=aZ wr.heap.size;have⟨W1,hW1⟩:=aZ (wr.alloc (.cells #[J x.job,J x.nd,J x.lm] 200));have b1:Z wr W1:=(by rw[← hW1];exact(aI _ wr).alloc (aC _) _);have hbx:W1.heap[zb]?=some (.cells #[J x.job,J x.nd,J x.lm] 200 (0,0)):=(by rw[← hW1,<-hzb];exact aK wr _);have hM1:=hM'.below b1;obtain⟨⟨_,_,_,p3⟩,_⟩:=hM1.cells;simp only[dK]at p3;have q3:=aD hM1.blk (k:=3);obtain⟨ao2,arb⟩:∃ao2,(if c'=1 then some ⟨g,o,none⟩else some ⟨g,o+3,none⟩:Option Addr)=ao2:=⟨_,rfl⟩;have hnx:=hM1.next hcc;rw[arb]at hnx;obtain⟨hM2,hC2⟩:=hnx;have⟨W2,hW2⟩:=aZ (W1.setCell ⟨m,3,none⟩ (.slice ao2 l2.length (c' - 1)));rw[hW2]at hM2 hC2;have aip:=VA hM1 hC2 hbx;have bC:aH (KM B m r W) W W2:=KM.trans (KM.trans hC' (aH.of_below b1 _)) hC2;obtain⟨⟨_,y1,_,_⟩,_⟩:=hM2.cells;have b0:=fK 0 aip;have b1':=fK 1 aip;have b2':=fK 2 aip;have hz2:=bC.size;have HM:Hid _:=hM2;have HC:Hid _:=bC;have Cb:Hid _:=aip;have HP:Hid (kQ now s h l=kQ now s' noW (x::l2)):=hp;have HG:Hid (Pr.Good now free rs s'):=hg';have HL:Hid (∀y∈l2,OkW y):=fun y hy=>hl' y (ny _ hy);clear hM' hC' hh' hl' hga hcl hp hg' hM1 hbx aip b1 hcs hM2 hC2 bC;by_cases hx:x.nd<=s'.fr
    ·have⟨g1,g2,g3⟩:=FD HG.out hf hn hx xo.n1;have CT:=ET (HM.out.qC (.cells #[.iface 299 (.pointer (some ⟨r,0,none⟩))] 353)) (aK W2.drew _) hx xo.n1 xo.n2 xo.l1 xo.l2 n0 n1 g1 g2 g3 fE;clear g2;go_upto_region 3 with(go_at_call 275;refine(JC m4).mono ?_;rintro e w' ⟨rfl,rfl⟩)
     go_cut [37] (fun p wc=>p=.bool false/\(∃yU vs',Mc B m r yU ao2 (c' - 1) vs' now (sw now s' x) noW l2 wc)/\aH (KM B m r W) W wc)
     case first=>
      go_region_held3 (fun x'=>x'.cell? ⟨zb,0,none⟩=some (J x.job)/\x'.cell? ⟨zb,1,none⟩=some (J x.nd)/\x'.cell? ⟨zb,2,none⟩=some (J x.lm)/\x'.cell? ⟨m,1,none⟩=some (.pointer (some ⟨r,0,none⟩)))
       (first | exact⟨b0,b1',b2',y1⟩ | exact⟨bK b0 _,bK b1' _,bK b2' _,bK y1 _⟩ | assumption | exact z3)
       (first | (go_at_call 276;refine CT.mono ?_;rintro e w5 ⟨rfl,⟨vr5,vs5,z1⟩,z2⟩;have z4:=VA (HM.out.qC _) z2 ((iM _ _ _ (aW Cb.out)).trans Cb.out);have z3:=And.intro (aj z4 (k:=0) rfl) (And.intro (aj z4 (k:=1) rfl) (And.intro (aj z4 (k:=2) rfl) z1.four.2.2.2))))
      all_goals
       go_wp2
       go_meet
       exact⟨rfl,⟨_,_,z1⟩,KM.trans HC.out (KM.trans (aH.of_below ((BN (aI _ W2)).alloc (aC _) _) _) z2)⟩
     case rest=>
      obtain⟨rfl,⟨vr6,vs6,Sy⟩,hC6⟩:=hcut;have Ni:Hid _:=Sy;have HC6:Hid _:=hC6;clear Sy hC6 CT HM HC Cb b0 b1' b2' y1 p3 q3 hW2 hW1 arb;go_wp2;go_roundg l2.length
      case measure=>simp only[dK]at hgk;omega
      case rel=>exact⟨sw now s' x,noW,l2,vr6,ao2,c' - 1,vs6,rfl,Ni.out,HC6.out,HP.out.trans (amy hx),sD HG.out hx ⟨xo.n1,xo.n2⟩,fun _=>rfl,HL.out,by omega,bM (Nat.sub_le _ _) avh⟩
    ·have hxn:s'.fr<x.nd:=ak;have CT:=EU (HM.out.qC (.cells #[.iface 299 (.pointer (some ⟨r,0,none⟩))] 353)) (aK W2.drew _) hxn;go_upto_region 3 with(go_at_call 275;refine(JC m4).mono ?_;rintro e w' ⟨rfl,rfl⟩)
     go_cut [37] (fun p wc=>p=.bool true/\Mc B m r yU ao2 (c' - 1) vs' now s' noW l2 wc/\aH (KM B m r W) W wc/\wc.heap[zb]?=some (Obj.cells #[J x.job,J x.nd,J x.lm] 200 (0,0)))
     case first=>
      go_region_held3 (fun x'=>x'.cell? ⟨zb,0,none⟩=some (J x.job)/\x'.cell? ⟨zb,1,none⟩=some (J x.nd)/\x'.cell? ⟨zb,2,none⟩=some (J x.lm)/\x'.cell? ⟨m,1,none⟩=some (.pointer (some ⟨r,0,none⟩)))
       (first | exact⟨b0,b1',b2',y1⟩ | exact⟨bK b0 _,bK b1' _,bK b2' _,bK y1 _⟩ | assumption | exact avg lV z2)
       (first | (go_at_call 276;refine CT.mono ?_;rintro e w5 ⟨rfl,z2⟩))
      all_goals
       go_wp2
       go_meet
       have zb:Z W2 w5:=((BN (aI _ W2)).alloc (aC _) _).trans (z2.mono dF)
       exact⟨rfl,HM.out.below zb,KM.trans HC.out (aH.of_below zb _),(zb.block _ (aW Cb.out)).trans Cb.out⟩
     case rest=>
      obtain⟨rfl,Sy,hC6,hb6⟩:=hcut;have k0:=fK 0 hb6;have k1:=fK 1 hb6;have k2:=fK 2 hb6;have d4:=aj Sy.blk (k:=4) rfl;have d5:=aj Sy.blk (k:=5) rfl;have d6:=aj Sy.blk (k:=6) rfl;have f4:=aD Sy.blk (k:=4);have f5:=aD Sy.blk (k:=5);have f6:=aD Sy.blk (k:=6);have Ni:Hid _:=Sy;have HC6:Hid _:=hC6;have hxj:x.job≠ -1:=(by have:=xo.j;omega);clear Sy hC6 hb6 CT HM HC Cb b0 b1' b2' y1 p3 q3 hW2 hW1 arb;go_wp2;go_roundg l2.length
      case measure=>simp only[dK]at hgk;omega
      case rel=>exact⟨s',x,l2,yU,ao2,c' - 1,vs',rfl,(Ni.out.hold x).1,KM.trans HC6.out (Ni.out.hold x).2,HP.out.trans (ara hxn hxj),HG.out,fun e=>absurd e hxj,HL.out,by omega,bM (Nat.sub_le _ _) avh⟩
   ·have HE:Hid (kQ now s h l=(s',h',x::l2)):=by rw[hp];unfold kQ;rw[aJ hj];exact rfl
    have HM:Hid _:=hM';have HC:Hid _:=hC';clear hp hM' hC' hg' hh' hl';simp only[dK]at m3 hcc;go_wp2_with (go_at_call 275;refine(EW m4 hj).mono ?_;rintro e w' ⟨rfl,rfl⟩)
    go_end0
    exact⟨rfl,⟨_,_,_,_,by rw[HE.out];exact HM.out⟩,HC.out⟩
end Pq
end Go.Proofs.YtdhifkbbjlhcaaaGreatDoor
