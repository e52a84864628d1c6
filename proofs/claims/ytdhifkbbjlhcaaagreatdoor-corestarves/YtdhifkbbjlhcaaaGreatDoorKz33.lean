import Derived.Test.YtdhifkbbjlhcaaaGreatDoorKz27
import Derived.Shelf.SlSortCmp.NoneTotal
set_option maxRecDepth 20000
set_option maxHeartbeats 1000000
set_option linter.defProp false
namespace Go.Proofs.YtdhifkbbjlhcaaaGreatDoor
open Go.Proofs.Tryz
namespace A3
open Go.RowKit Go.Shelf Ag
def Es:Ren where
 f:=fun
  | 6=>283
  | 15=>202
  | 14=>299
  | 28=>255
  | 29=>256
  | 20=>303
  | 21=>304
  | 22=>305
  | 23=>306
  | 24=>307
  | 25=>308
  | 26=>309
  | 27=>310
  | 46=>319
  | 47=>285
  | 48=>286
  | 49=>320
  | 50=>321
  | 57=>325
  | n=>n
 t:=fun
  | 22=>309
  | 24=>237
  | 25=>323
  | 3=>3
  | 39=>206
  | 0=>0
  | 53=>319
  | 55=>40
  | 4=>4
  | 46=>313
  | 45=>312
  | 50=>158
  | 5=>5
  | 9=>9
  | 66=>341
  | 70=>154
  | 76=>358
  | 77=>297
  | n=>n
 g:=fun n=>n
def qz:SlLaysF0.n6 prog Es where
 mixed:=aF
 f6:=⟨f283.name,by kernel_rfl,func283.trans (aP some aF)⟩
 f14:=⟨f299.name,by kernel_rfl,func299.trans (aP some aF)⟩
 f15:=func202.trans (aP some aF)
 f20:=⟨f303.name,by kernel_rfl,func303.trans (aP some aF)⟩
 f21:=⟨f304.name,by kernel_rfl,func304.trans (aP some aF)⟩
 f22:=⟨f305.name,by kernel_rfl,func305.trans (aP some aF)⟩
 f23:=⟨f306.name,by kernel_rfl,func306.trans (aP some aF)⟩
 f24:=⟨f307.name,by kernel_rfl,func307.trans (aP some aF)⟩
 f25:=⟨f308.name,by kernel_rfl,func308.trans (aP some aF)⟩
 f26:=⟨f309.name,by kernel_rfl,func309.trans (aP some aF)⟩
 f27:=⟨f310.name,by kernel_rfl,func310.trans (aP some aF)⟩
 f28:=func255.trans (aP some aF)
 f29:=func256.trans (aP some aF)
 f46:=⟨f319.name,by kernel_rfl,func319.trans (aP some aF)⟩
 f47:=func285.trans (aP some aF)
 f48:=func286.trans (aP some aF)
 f49:=⟨f320.name,by kernel_rfl,func320.trans (aP some aF)⟩
 f50:=⟨f321.name,by kernel_rfl,func321.trans (aP some aF)⟩
 f57:=⟨f325.name,by kernel_rfl,func325.trans (aP some aF)⟩
 t0:=underlying0
 a0:=isAgg0
 z0:=sizeOf0
 v0:=zeroValue0
 t3:=underlying3
 a3:=isAgg3
 z3:=sizeOf3
 v3:=zeroValue3
 t4:=underlying4
 a4:=isAgg4
 z4:=sizeOf4
 v4:=zeroValue4
 t5:=underlying5
 a5:=isAgg5
 z5:=sizeOf5
 v5:=zeroValue5
 t9:=underlying9
 a9:=isAgg9
 z9:=sizeOf9
 v9:=zeroValue9
 t22:=underlying309
 a22:=isAgg309
 z22:=sizeOf309
 v22:=zeroValue309
 t25:=underlying323
 a25:=isAgg323
 z25:=sizeOf323
 v25:=zeroValue323
 t39:=underlying206
 a39:=isAgg206
 z39:=sizeOf206
 v39:=zeroValue206
 t45:=underlying312
 a45:=isAgg312
 z45:=sizeOf312
 v45:=zeroValue312
 t46:=underlying313
 a46:=isAgg313
 z46:=sizeOf313
 v46:=zeroValue313
 t50:=underlying158
 a50:=isAgg158
 z50:=sizeOf158
 v50:=zeroValue158
 t53:=underlying319
 a53:=isAgg319
 z53:=sizeOf319
 v53:=zeroValue319
 t55:=underlying40
 a55:=isAgg40
 z55:=sizeOf40
 v55:=zeroValue40
 t66:=underlying341
 a66:=isAgg341
 z66:=sizeOf341
 v66:=zeroValue341
 t70:=underlying154
 a70:=isAgg154
 z70:=sizeOf154
 v70:=zeroValue154
 t76:=underlying358
 a76:=isAgg358
 z76:=sizeOf358
 v76:=zeroValue358
 t77:=underlying297
 a77:=isAgg297
 z77:=sizeOf297
 v77:=zeroValue297
namespace Ag
abbrev Pr:=Int×Int
def En.pr (e:En):Pr:=(e.id,e.tm)
def adk (x:Pr):List Value:= [J x.1,J x.2]
def WT (x y:Pr):Int:=ahC x.1 x.2 y.1 y.2
def enP (x:Pr):En:=⟨x.1,x.2⟩
def lt_iff (x y:Pr):ltOf WT x y=true↔x.2<y.2\/(x.2=y.2/\x.1<y.1):=rZ (enP x) (enP y)
theorem Ch (x y:Pr):ltOf WT x y=false↔¬(x.2<y.2\/(x.2=y.2/\x.1<y.1)):=by rw[← lt_iff];simp
def az9:Sort.SWO (ltOf WT) where
 irrefl x:=by rw[Ch];omega
 trans x y z h1 h2:=by rw[lt_iff]at *;omega
 ntrans x y z h1 h2:=by rw[Ch]at *;omega
theorem avd (x y:Pr) (h1:ltOf WT x y=false) (h2:ltOf WT y x=false):x=y:=by
 grind[Ch]
def amr {d M:List Pr} (hp:d.Perm M) (hs:M.Pairwise (fun x y=>ltOf WT x y=true)):d.mergeSort (fun x y=> !ltOf WT y x)=M:=by
 have h1:(d.mergeSort (fun x y=> !ltOf WT y x)).Perm M:=by grind[List.mergeSort_perm]
 have h2:=List.pairwise_mergeSort (le:=fun x y=> !ltOf WT y x) (fun a b c hab hbc=>by
  simp only[Fx,Ch]at *
  omega) (fun a b=>by
  by_cases h:ltOf WT b a=true
  ·have:ltOf WT a b=false:=by rw[Ch];rw[lt_iff]at h;omega
   simp[this]
  ·simp only[Bool.not_eq_true]at h
   simp[h]) d
 refine PL (le:=fun x y=>(!ltOf WT y x)=true) (fun a b _ _ hab hba=>?_) h2 (hs.imp (fun {a b} hab=>?_)) h1
 ·grind[avd]
 grind[Ch]
end Ag
def LQ (blk off size:Nat) (w:ay):CmpLays prog 263 #[] adk 2 WT blk off size w:=fun _ _ _ _ x y=>Ib x.1 x.2 y.1 y.2 _
def Am {w:ay} {blk cap:Nat} {d M:List Pr} (hp:d.Perm M) (hs:M.Pairwise (fun x y=>ltOf WT x y=true)) (hblk:blk<w.heap.size) (hsz:d.length<=35184372088832) {cur:Array Value} (hc:w.heap[blk]?=some (.cells cur 237 (0,0)))
  (hcur:∀j x,d[j]?=some x->cur[j*2]?=some (J x.1)/\cur[j*2+1]?=some (J x.2)):
  Calls prog 283 #[.slice (some ⟨blk,0,none⟩) d.length cap,.func (.func 263) #[] #[]] w fun e w'=>e=.returned (.tuple #[])/\(∀j x,M[j]?=some x->w'.cell? ⟨blk,j*2,none⟩=some (J x.1)/\w'.cell? ⟨blk,j*2+1,none⟩=some (J x.2))/\aH (fun k=>k=blk) w w':=by
 have hH:Sort.HoldsK adk 2 w blk 0 d.toArray:=by exact atx
 have hcon:=AnyQ.slices_SortFunc_total qz 2 isAgg237 sizeOf237 adk (fun _=>rfl) (fun x v hv=>by simp[adk]at hv;rcases hv with rfl | rfl<;>rfl) WT az9 263 #[] blk 0 cap d.toArray w (enters_of func263 aF rfl) (LQ _ _ _ _) hH hblk fE avd
 have ah7:Calls prog 283 #[.slice (some ⟨blk,0,none⟩) d.length cap,.func (.func 263) #[] #[]] w _:=hcon;refine ah7.mono ?_;rintro e w' ⟨rfl,n,os,rfl⟩;rw[amr hp hs];have hW:SWK adk 2 w blk 0 M.toArray (sortWorldK adk 2 w blk 0 n M.toArray os):=⟨n,os,rfl⟩;have hh:=hW.holds hblk hH (by simp[hp.length_eq]);refine⟨rfl,fun j x hx=>?_,?_⟩
 ·have hj:=(bO.1 hx).1;have ex:M.toArray[j]! =x:=by have:=(bO.1 hx).2;simp[hj,this]
  exact anS
 ·exact anB
end A3
namespace A3
open Go.RowKit Ag
def RdI (w:ay) (v:Value) (xs:List Int):Prop:=∃ao cap g o,v=.slice ao xs.length cap/\(0<xs.length->ao=some ⟨g,o,none⟩)/\∀j x,xs[j]?=some x->w.cell? ⟨g,o+j,none⟩=some (J x)
def YT {w:ay} {B:Nat} {v:Value} {xs:List Int} (h:w.ownsRow B 3 1 v xs.length (ints xs)):RdI w v xs:=by
 rcases h.2 with⟨rfl,h0⟩ | ⟨g,cap,cur,rfl,_,hg,_,_,_,ht⟩
 ·obtain rfl:xs= []:=DV.1 h0;exact⟨none,0,0,0,rfl,fun h=>by omega,fun j x hx=>by grind⟩
 ·refine ⟨some ⟨g,0,none⟩,cap,g,0,rfl,fun _=>rfl,fun j x hx=>?_⟩;refine aj hg ?_;have h1:(ints xs)[j]?=some (J x):=by grind[ints]
  grind
end A3
namespace A3
open Go.RowKit Ag
def KeepsFrom.join {B B' B0:Nat} {W W':ay} (k:KeepsFrom B' W W') (c:aH (fun j=>j=B0\/B'<=j) W W') (hB:B0<B):KeepsFrom B W W':=⟨k.size,fun j o hj ho hc=>by
 grind[KeepsFrom.same,aH.block]⟩
def Col.owned {B0 B Bq:Nat} (hq:B0<Bq):OwnFrom Bq (fun (p:Value×List Int) W=>Col B0 B p.1 p.2 W):=by
 rintro ⟨v,xs⟩ W W' row h hg hr;have hlt:=(aS.1 h.blk).1;refine⟨(hg.block B0 hlt (fun e=>by grind)).trans h.blk,eG h.row (fun k hk=>?_),h.lo,bM h.hi hg.size⟩;exact anR
section
variable {B1 B2 B:Nat} {v1 v2 v':Value} {xs ys:List Int} {W w1:ay} {x:Int}
end
end A3
namespace A3
open Go.RowKit Ag
def xq (W:ay) (l:Nat) (o':Obj):W.grownBy (W.putObj l o') (some l):=xK W l o'
end A3
end Go.Proofs.YtdhifkbbjlhcaaaGreatDoor
