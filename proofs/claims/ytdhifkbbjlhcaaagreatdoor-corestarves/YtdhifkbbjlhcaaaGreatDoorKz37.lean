import Derived.Test.YtdhifkbbjlhcaaaGreatDoorKz35
import Derived.Shelf.SlSortCmp.WholeK
import Derived.Shelf.SlSortCmp.NoneTotal
set_option maxRecDepth 100000
set_option maxHeartbeats 4000000
set_option linter.defProp false
namespace Go.Proofs.YtdhifkbbjlhcaaaGreatDoor
open Go.Proofs.Tryz
variable {W w:ay} {ao:Option Addr} {c:Nat} {l:List Pq.Pr.Rn} {v:Value}
namespace Pq
open Go.RowKit Pr
structure Sl (g o:Nat) (W:ay) (ao:Option Addr) (l:List Rn) (c:Nat):Prop where
 at_:ao=some ⟨g,o,none⟩\/(ao=none/\l= []/\c=0)
 cell:∀k r,l[k]?=some r->W.cell? ⟨g,o+k*2,none⟩=some (J r.nd)/\W.cell? ⟨g,o+k*2+1,none⟩=some (J r.en)
 le:l.length<=c
def Sl.g {g o:Nat} (h:Sl g o W ao l c):yH g o W ao l:=
 ⟨fun hl=>h.at_.elim id (fun e=>by grind),h.cell⟩
theorem Sl.fF {g o:Nat} {W W':ay} {K:Nat->Prop} (h:Sl g o W ao l c) (hc:aH K W W') (hK:0<l.length->¬K g):Sl g o W' ao l c:=
 ⟨h.at_,(h.g.fF hc hK).cell,h.le⟩
theorem Sl.below {g o:Nat} {W W':ay} (h:Sl g o W ao l c) (b:Z W W'):Sl g o W' ao l c:=h.fF (aH.of_below b (fun _=>False)) (fun _ h=>h)
def Sl.cut {g o:Nat} {c n:Nat} (h:Sl g o W (some ⟨g,o,none⟩) l c) (hn:n<=l.length):Sl g o W (some ⟨g,o,none⟩) (l.take n) n/\Sl g (o+n*2) W (some ⟨g,o+n*2,none⟩) (l.drop n) (c - n):=by
 refine⟨⟨.inl rfl,fun k r hr=>?_,by grind⟩,⟨.inl rfl,fun k r hr=>?_,by have:=h.le;grind⟩⟩
 ·grind[cell]
 ·rw[List.getElem?_drop]at hr;have:=h.cell _ r hr;grind
def VB (hA:eO w ao l) (hn:l.length*16<=140737488355328) (hok:l.all qX=true):
  Calls prog 243 #[.slice ao l.length c] w fun e w'=>e=.returned (J (fG l))/\Z w w':=by
 have⟨q,hq⟩:=aZ l.length;obtain⟨g,o,hg,hc⟩:=hA;rw[hq];rw[hq]at hg hn;go_enter func243,ntmps243;go_wp2;go_loopg [3,8] q (fun gk p i wr=>∃(j:Nat) (x:Int),j+gk=q/\p=J x/\i=J j/\Z w wr/\x=fG (l.take j))
 case atStart=>exact⟨0,0,by omega,rfl,rfl,aI _ _,by simp[fG]⟩
 case round=>
  obtain⟨j,x,hj,rfl,rfl,hb,hx⟩:=hrel;by_cases hlt:j<q
  ·obtain ⟨r,hr⟩:∃r,l[j]?=some r:=⟨_,aY ak⟩;obtain rfl:=hg ak;have⟨c1,c2⟩:=hc j r hr;replace c1:=(hb.cell (aU w _ c1)).trans c1;replace c2:=(hb.cell (aU w _ c2)).trans c2;have e1:=OI hr;have e2:=qx (wO hok (j+1));rw[vX]at e2;have e3:=qx (wO hok j);rw[vX]at e3;have:=ahb (vC.1 hok r (dW hr));have x0:0<=x:=ak;have x1:x<=256*q:=ak;have HX:Hid (x+r.nd=fG (l.take (j+1))):=show x+r.nd=fG (l.take (j+1)) by omega
   clear hx e1 e2 e3 hc hg hr;go_wp2;go_roundg (q - (j+1))
   case measure=>omega
   case rel=>exact⟨j+1,_,by omega,rfl,rfl,hb.alloc hb.size _,HX.out⟩
  ·obtain rfl:j=q:=ak;rw[xH ak]at hx;have HX:Hid _:=hx;clear hx;go_wp2;go_ret;exact⟨by rw[HX.out];rfl,hb⟩
def Y0 {g o:Nat} (hA:Sl g o w ao l c) (hn:l.length*16<=140737488355328) (hc:c<=maxLen) (t:Int):
  Calls prog 242 #[.slice ao l.length c,J t] w fun e w'=>∃a1 a2,e=.returned (.tuple #[.slice a1 (oZ t l) (oZ t l),.slice a2 (l.length - oZ t l) (c - oZ t l)])/\Sl g o w' a1 (l.take (oZ t l)) (oZ t l)/\(∃o2,Sl g o2 w' a2 (l.drop (oZ t l)) (c - oZ t l))/\Z w w':=by
 rcases hA.at_ with rfl | ⟨rfl,rfl,rfl⟩
 ·obtain ⟨q,hq⟩:∃q,l.length=q:=⟨_,rfl⟩;have hcl:=hA.cell;have hle:=hA.le;rw[hq]at hn hle ⊢;go_enter func242,ntmps242;go_wp2_with fail
  go_loopg [6] q (fun gk p wr=>∃j:Nat,j+gk=q/\p=J j/\w=wr/\∀i r,i<j->l[i]?=some r->r.en<=t)
  case atStart=>exact⟨0,by omega,rfl,rfl,fun i r h=>by omega⟩
  case round=>
   obtain⟨j,hj,rfl,rfl,hinv⟩:=hrel;have HI:Hid _:=hinv;clear hinv;by_cases hlt:j<q
   ·obtain ⟨r,hr⟩:∃r,l[j]?=some r:=⟨_,aY ak⟩;have⟨c1,c2⟩:=hcl j r hr;by_cases ht:r.en<=t
    ·have HR:Hid _:=hr;clear hcl hr;go_wp2;go_roundg (q - (j+1))
     case measure=>omega
     case rel=>
      refine⟨j+1,by omega,rfl,rfl,fun i r' hi hir=>?_⟩;by_cases e:i=j
      ·subst e;have:=HR.out;rw[this]at hir
       cases hir;exact ht
      ·exact HI.out i r' ak hir
    ·have e:=aaq ak HI.out (fun r' hr'=>by rw[hr]at hr';cases hr';omega)
     have E:Hid _:=e;have HA:Hid _:=hA;clear hcl hr e hA;go_wp2_with fail
     go_quiet (fail)
     all_goals
      go_wp2
      have⟨e1,e2⟩:=HA.out.cut (n:=j) ak
      have ee:=E.out
      rw[ee]
      exact b_ (v:=.tuple #[.slice (some ⟨g,o,none⟩) j j,.slice (some ⟨g,o+j*2,none⟩) (q - j) (c - j)]) (by simp[results,results242,go_sem]) rfl ⟨_,_,rfl,e1.below (aN _ _),⟨_,e2.below (aN _ _)⟩,aN _ _⟩
   ·obtain rfl:j=q:=ak;have e:=aaq ak HI.out (fun r' hr'=>by have:=(bO.1 hr').1;omega);have E:Hid _:=e;have HA:Hid _:=hA;have⟨e1,e2⟩:=hA.cut (n:=j) ak;have E1:Hid _:=e1;have E2:Hid _:=e2;have hdn:Hid (l.drop j= []):=show l.drop j= []from vY ak;clear hcl e hA e1 e2;by_cases hcj:c=j
    ·subst hcj;go_wp2_with fail
     go_quiet (fail)
     all_goals
      go_wp2
      have ee:=E.out
      rw[ee]
      refine b_ (v:=.tuple #[.slice (some ⟨g,o,none⟩) c c,.slice (some ⟨g,o,none⟩) (c - c) (c - c)]) (by simp[results,results242,go_sem]) rfl ⟨_,_,rfl,E1.out.below (aN _ _),⟨o,.inl rfl,fun k r hr=>?_,?_⟩,aN _ _⟩
      ·rw[hdn.out]at hr;simp at hr
      ·rw[hdn.out];simp
    ·have aGh:j<c:=ak;go_wp2_with fail
     go_quiet (fail)
     all_goals
      go_wp2
      have ee:=E.out
      rw[ee]
      refine b_ (v:=.tuple #[.slice (some ⟨g,o,none⟩) j j,.slice (some ⟨g,o+j*2,none⟩) (j - j) (c - j)]) (by simp[results,results242,go_sem]) rfl ⟨_,_,rfl,E1.out.below (aN _ _),⟨_,E2.out.below (aN _ _)⟩,aN _ _⟩
 ·simp only[jh]at *;go_enter func242,ntmps242;go_wp2_with fail
  go_loopg [6] 0 (fun gk p wr=>gk=0/\p=J 0/\w=wr)
  case atStart=>exact⟨rfl,rfl,rfl⟩
  case round=>
   obtain⟨hj,rfl,rfl⟩:=hrel;go_wp2_with fail
   go_quiet (fail)
   all_goals
    go_wp2
    exact b_ (v:=.tuple #[.slice none 0 0,.slice none 0 0]) (by simp[results,results242,go_sem]) rfl ⟨none,none,rfl,⟨.inr ⟨rfl,rfl,rfl⟩,fun k r hr=>by simp at hr,aC _⟩,⟨0,.inr ⟨rfl,rfl,rfl⟩,fun k r hr=>by simp at hr,aC _⟩,aN _ _⟩
end Pq
namespace Pq
open Go.RowKit Go.Shelf Pr
def Es:Ren where
 f:=fun
  | 6=>297
  | 15=>202
  | 14=>302
  | 28=>255
  | 29=>256
  | 20=>311
  | 21=>312
  | 22=>313
  | 23=>314
  | 24=>315
  | 25=>316
  | 26=>317
  | 27=>318
  | 46=>322
  | 47=>285
  | 48=>286
  | 49=>323
  | 50=>324
  | 57=>326
  | n=>n
 t:=fun
  | 22=>75
  | 24=>108
  | 25=>339
  | 3=>3
  | 39=>206
  | 0=>0
  | 53=>319
  | 55=>40
  | 4=>4
  | 46=>313
  | 45=>312
  | 50=>158
  | 5=>5
  | 9=>9
  | 66=>341
  | 70=>154
  | 76=>358
  | 77=>297
  | n=>n
 g:=fun n=>n
def qz:SlLaysF0.n6 prog Es where
 mixed:=aF
 f6:=⟨f297.name,by kernel_rfl,func297.trans (aP some aF)⟩
 f14:=⟨f302.name,by kernel_rfl,func302.trans (aP some aF)⟩
 f15:=func202.trans (aP some aF)
 f20:=⟨f311.name,by kernel_rfl,func311.trans (aP some aF)⟩
 f21:=⟨f312.name,by kernel_rfl,func312.trans (aP some aF)⟩
 f22:=⟨f313.name,by kernel_rfl,func313.trans (aP some aF)⟩
 f23:=⟨f314.name,by kernel_rfl,func314.trans (aP some aF)⟩
 f24:=⟨f315.name,by kernel_rfl,func315.trans (aP some aF)⟩
 f25:=⟨f316.name,by kernel_rfl,func316.trans (aP some aF)⟩
 f26:=⟨f317.name,by kernel_rfl,func317.trans (aP some aF)⟩
 f27:=⟨f318.name,by kernel_rfl,func318.trans (aP some aF)⟩
 f28:=func255.trans (aP some aF)
 f29:=func256.trans (aP some aF)
 f46:=⟨f322.name,by kernel_rfl,func322.trans (aP some aF)⟩
 f47:=func285.trans (aP some aF)
 f48:=func286.trans (aP some aF)
 f49:=⟨f323.name,by kernel_rfl,func323.trans (aP some aF)⟩
 f50:=⟨f324.name,by kernel_rfl,func324.trans (aP some aF)⟩
 f57:=⟨f326.name,by kernel_rfl,func326.trans (aP some aF)⟩
 t0:=underlying0
 a0:=isAgg0
 z0:=sizeOf0
 v0:=zeroValue0
 t3:=underlying3
 a3:=isAgg3
 z3:=sizeOf3
 v3:=zeroValue3
 t4:=underlying4
 a4:=isAgg4
 z4:=sizeOf4
 v4:=zeroValue4
 t5:=underlying5
 a5:=isAgg5
 z5:=sizeOf5
 v5:=zeroValue5
 t9:=underlying9
 a9:=isAgg9
 z9:=sizeOf9
 v9:=zeroValue9
 t22:=underlying75
 a22:=isAgg75
 z22:=sizeOf75
 v22:=zeroValue75
 t25:=underlying339
 a25:=isAgg339
 z25:=sizeOf339
 v25:=zeroValue339
 t39:=underlying206
 a39:=isAgg206
 z39:=sizeOf206
 v39:=zeroValue206
 t45:=underlying312
 a45:=isAgg312
 z45:=sizeOf312
 v45:=zeroValue312
 t46:=underlying313
 a46:=isAgg313
 z46:=sizeOf313
 v46:=zeroValue313
 t50:=underlying158
 a50:=isAgg158
 z50:=sizeOf158
 v50:=zeroValue158
 t53:=underlying319
 a53:=isAgg319
 z53:=sizeOf319
 v53:=zeroValue319
 t55:=underlying40
 a55:=isAgg40
 z55:=sizeOf40
 v55:=zeroValue40
 t66:=underlying341
 a66:=isAgg341
 z66:=sizeOf341
 v66:=zeroValue341
 t70:=underlying154
 a70:=isAgg154
 z70:=sizeOf154
 v70:=zeroValue154
 t76:=underlying358
 a76:=isAgg358
 z76:=sizeOf358
 v76:=zeroValue358
 t77:=underlying297
 a77:=isAgg297
 z77:=sizeOf297
 v77:=zeroValue297
namespace Pr
instance :Inhabited Rn:=⟨⟨0,0⟩⟩
def cfR (x y:Rn):Int:=kU x.en y.en
def lt_iff (x y:Rn):ltOf cfR x y=true↔x.en<y.en:=by
 grind[ltOf,cfR,kU]
theorem Ch (x y:Rn):ltOf cfR x y=false↔¬x.en<y.en:=by rw[← lt_iff];simp
def aAc:Sort.SWO (ltOf cfR) where
 irrefl x:=by rw[Ch];omega
 trans x y z h1 h2:=by rw[lt_iff]at *;omega
 ntrans x y z h1 h2:=by rw[Ch]at *;omega
def adt (r:Rn):List Value:= [J r.nd,J r.en]
end Pr
def LQ (blk off size:Nat) (w:ay):CmpLays prog 281 #[] adt 2 cfR blk off size w:=fun _ _ _ _ x y=>Ye x y _
def Am {blk cap:Nat} {d:List Rn} (hblk:blk<w.heap.size) (hsz:d.length<=35184372088832) {cur:Array Value} (hc:w.heap[blk]?=some (.cells cur 108 (0,0)))
  (hcur:∀j x,d[j]?=some x->cur[j*2]?=some (J x.nd)/\cur[j*2+1]?=some (J x.en)):
  Calls prog 297 #[.slice (some ⟨blk,0,none⟩) d.length cap,.func (.func 281) #[] #[]] w fun e w'=>e=.returned (.tuple #[])/\∃M:List Rn,M.Perm d/\Gh M/\(∀j x,M[j]?=some x->w'.cell? ⟨blk,j*2,none⟩=some (J x.nd)/\w'.cell? ⟨blk,j*2+1,none⟩=some (J x.en))/\aH (fun k=>k=blk) w w':=by
 have hH:Sort.HoldsK adt 2 w blk 0 d.toArray:=by exact atx
 have hcon:=AnyQ.slices_SortFunc qz 2 isAgg108 sizeOf108 adt (fun _=>rfl) (fun x v hv=>by simp[adt]at hv;rcases hv with rfl | rfl<;>rfl) cfR aAc 281 #[] blk 0 cap d.toArray w (enters_of func281 aF rfl) (LQ _ _ _ _) hH hblk fE
 have ah7:Calls prog 297 #[.slice (some ⟨blk,0,none⟩) d.length cap,.func (.func 281) #[] #[]] w _:=hcon;refine ah7.mono ?_;rintro e w' ⟨rfl,d',n,os,⟨hz,_,hperm⟩,hsrt,rfl⟩;have hz':d'.size=d.length:=by simpa using hz
 have hP:d'.toList.Perm d:=by
  have e1:d'.extract 0 d.toArray.size=d':=by rw[show d.toArray.size=d'.size by rw[hz]];simp
  have e2:d.toArray.extract 0 d.toArray.size=d.toArray:=dF;rw[e1,e2]at hperm;simpa using hperm
 have hW:SWK adt 2 w blk 0 d' (sortWorldK adt 2 w blk 0 n d' os):=⟨n,os,rfl⟩;have hh:=hW.holds hblk hH (by simp[hz']);refine⟨rfl,d'.toList,hP,?_,fun j x hx=>?_,?_⟩
 ·rw[Gh,tF];intro i j hi hj hij;have:=hsrt i j (ni _) hij (by simp at hj ⊢;omega);rw[Ch]at this;have e1:d'[i]! =d'.toList[i]:=by simp at hi;simp[hi]
  have e2:d'[j]! =d'.toList[j]:=by simp at hj;simp[hj]
  rw[e1,e2]at this;omega
 ·have hj:=(bO.1 hx).1;have ex:d'[j]! =x:=by have:=(bO.1 hx).2;simp at hj;simp[hj]at this ⊢;exact this
  exact anS
 ·exact anB
end Pq
namespace Pq
open Go.RowKit Go.Shelf Pr
attribute [local go_sem] Oper.semAt_some
def VD {w w':ay} (b:Z w w'):KeepsOthers w w':=⟨b.size,fun k _ h _=>(b.block k (aS.1 h).1).trans h⟩
def encS (s:Stp):Array Value:= #[.agg #[J s.at_,J s.fr]]
def aiq (b:Nat) (w:ay):Int:=match w.cell? ⟨b,0,none⟩with
 | some (.int _ z)=>z
 | _=>0
def avi {w0 w1 w2:ay} {p:Addr} (b:Z w1 w2) (h:w1.cell? p=some v/\w1.frozen? p=false/\Z w0 w1):w2.cell? p=some v/\w2.frozen? p=false/\Z w0 w2:=by
 grind[aU,Below.cell,kR,jm,gN,lI,World.frozen?]
def VE {M:List Rn} (c n:Nat):fG (M.take (c+n))=fG (M.take c)+fG ((M.drop c).take n):=by grind[uf]
def Y1 {bn bf bo g o c:Nat} {now free:Int} {l M:List Rn} (h1:W.cell? ⟨bn,0,none⟩=some (J now)) (h2:W.cell? ⟨bf,0,none⟩=some (J free)) (h3:W.cell? ⟨bo,0,none⟩=some (.slice ao M.length c))
  (hA:Sl g o W ao M c) (hc:c<=maxLen) (hlen:l.length*16<=140737488355328) (hp:M.Perm l) (hs:Gh M) (hr:right free l=true):
  Gives 241 #[.pointer (some ⟨bn,0,none⟩),.pointer (some ⟨bf,0,none⟩),.pointer (some ⟨bo,0,none⟩)] encS (fC now free l) (fun j=>j=bn\/j=bf\/j=bo\/(0<M.length/\j=g)) W:=by
 intro n L N T Tx hn hN h0 hT hY;refine callsIn_of_wp func241 rfl trivial ?_ rfl;simp only[ntmps241,vD,dK,jh,Nat.reduceAdd,Nat.reduceSub,vE,vF,vG,vH,pY,mP];have HA:Hid _:=hA;have HP:Hid _:=hp;have HS:Hid _:=hs;have HR:Hid _:=hr;have H0:Hid _:=h0;have HT:Hid _:=hT;have HY:Hid _:=hY;have HN:Hid _:=hN;clear hA hp hs hr h0 hT hY hN;have l1:bn<W.heap.size:=aU W _ h1;have l2:bf<W.heap.size:=aU W _ h2;have l3:bo<W.heap.size:=aU W _ h3;gi_wp2
 gi_region
 have⟨W1,hW1⟩:=aZ ((W.alloc (.cells #[J now,J free] 113)).drew);have b1:Z W W1:=by grind[aI,Below.alloc,BN]
 have z1:W1.heap.size=W.heap.size+1:=by rw[← hW1];show (W.alloc _).heap.size=_;simp
 have y1:W1.heap[W.heap.size]?=some (.cells #[J now,J free] 113 (0,0)):=by rw[← hW1];exact aK W _
 rw[hW1];clear hW1 h1 h2 h3 l1 l2 l3;have T0:Hid (T W1.heap.size 0 W1):=H0.out W1 b1;have B1:Hid _:=b1;clear b1;have⟨q,hq⟩:=aZ M.length;have hlq:l.length=q:=by rw[← HP.out.length_eq];exact hq
 rw[hlq]at hlen;have HLQ:Hid _:=hlq;have HQ:Hid _:=hq;rw[hq];clear hq hlq;have⟨st,hst⟩:=aZ W.heap.size;rw[hst]at y1 z1 ⊢;have HST:Hid _:=hst;clear hst;have hS:fC now free l=fromV free l now:=by grind[fC,fromV,Hid.out]
 have HSS:Hid _:=hS;clear hS;gi_wp2_with fail
 gi_loopw [6] (fun p wr=>∃(k:Nat) (a f:Int) (c0 oL cL:Nat) (aL:Option Addr),p=.slice aL (q - c0) cL/\Sl g oL wr aL (M.drop c0) cL/\cL<=maxLen/\c0<=q/\(∀r∈M.take c0,r.en<=a)/\f=free+fG (M.take c0)/\wr.heap[st]?=some (.cells #[J a,J f] 113 (0,0))/\(fC now free l).drop k=fromV free l a/\T W1.heap.size k wr/\W1.heap.size<=wr.heap.size) (fun _ wr=>cnt l (aiq st wr))
 case atStart=>refine⟨0,now,free,0,o,c,ao,rfl,?_,hc,ni _,fun r hr=>by grind,by simp[fG],y1,HSS.out,T0.out,aC _⟩;exact HA.out.below B1.out
 case round=>
  obtain⟨k,a,f,c0,oL,cL,aL,rfl,hsl,hcL,hc0,hin,hf,hst,hdr,hTk,hwz⟩:=hrel;have x0:wr.cell? ⟨st,0,none⟩=some (J a):=aj hst rfl;have hpa:=Y0 hsl (by simp[HQ.out];omega) hcL a;rw[List.length_drop,HQ.out]at hpa;have hcut:=aqw HS.out hin;have⟨n1,hn1⟩:=aZ (oZ a (M.drop c0));have aGj:n1<=q - c0:=by grind[aan,Hid.out]
  rw[hn1]at hpa hcut;have air:Hid _:=hcut;have HDR:Hid _:=hdr;have Y2:Hid _:=hTk;have HF:Hid _:=hf;have avj:Hid _:=hst;clear hcut hdr hTk hf hst hin hsl hn1
  gi_wp2_with (first
   | (refine ⟨trivial,?_⟩;gi_at_call 242;refine(mg.2 hpa).mono ?_;rintro e w2 ⟨a1,a2,rfl,sl1,⟨o2,sl2⟩,b2⟩))
  clear hpa;have ais:=(b2.block _ (aS.1 avj.out).1).trans avj.out;have x1:w2.cell? ⟨st,1,none⟩=some (J f):=aj ais rfl;have xf:w2.frozen? ⟨st,1,none⟩=false:=aD ais;have ard:M.all qX=true:=by grind[right,Hid.out]
  have hfree:0<=free/\free<=256:=by grind[okF,right,Hid.out]
  have q1:=qx (wO ard c0);have q2:=qx (wO (zh ard c0) n1);have q3:=VE (M:=M) c0 n1;have hl1:((M.drop c0).take n1).length=n1:=by grind[Hid.out]
  have hl0:(M.take c0).length<=q:=by grind
  have⟨sm,hsm⟩:=aZ (fG ((M.drop c0).take n1));have hno:∀W',Z w2 W'->Calls prog 243 #[.slice a1 n1 n1] W' fun e w'=>e=.returned (J sm)/\Z W' w':=fun W' hB=>by have:=VB (c:=n1) (sl1.below hB).g.runs ak (wO (zh ard c0) n1);grind
  rw[hsm]at q2 q3;rw[hl1]at q2;have f0:0<=f:=by grind[Hid.out]
  have f1:f<=256+256*q:=by grind[Hid.out]
  have s0:=q2.1;have s1:sm<=256*q:=ak;have hfs:f+sm=pQ free l a:=by rw[pR,<-QU HP.out,air.out.2.2,q3];grind[Hid.out]
  have HFS:Hid _:=hfs;have hb0:Z w2 w2.drew:=(aI _ w2).drew;clear hfs q1 q2 q3 hl1 hl0 hsm hfree;refine wpIn_wide.2 ?_;have avk:=(hno _ hb0).mono (R':=fun e w3=>e=.returned (J sm)/\w3.cell? ⟨st,1,none⟩=some (J f)/\w3.frozen? ⟨st,1,none⟩=false/\Z w2 w3) (fun e w3 h=>⟨h.1,avi h.2 ⟨x1,xf,hb0⟩⟩);clear hno;go_region_with (first | (go_at_call 243;refine avk.mono ?_;rintro e w3 ⟨rfl,x3,xf3,b3⟩))
  all_goals
   have hwr:IntKind.i64.wrap (f+sm)=f+sm:=by grind[fO]
   rw[hwr]
   clear avk x1 xf hb0
   have avl:=(b3.block _ (aS.1 ais).1).trans ais
   have⟨A,hA⟩:=aZ (w3.setCell ⟨st,1,none⟩ (J (f+sm)))
   have amA:A.heap[st]?=some (.cells #[J a,J (f+sm)] 113 (0,0)):=by rw[← hA];exact bS w3 st 1 _ 113 _ avl
   have b13:=b2.trans (b3.mono b2.size)
   have cA:aH (fun j=>j=st) wr A:=by grind[aH.of_below,aH.setCell]
   have kA:KeepsOthers wr A:=by rw[← hA];exact(VD b13).trans (JZ _ _ _)
   have zA:=bM hwz cA.size
   have aGl:=HST.out
   have TA:=HT.out W1.heap.size k wr A ak Y2.out (cA.mono (fun j _ e=>by subst e;exact⟨by omega,by omega⟩)) kA
   have hs:(fC now free l)[k]?=some ⟨a,f+sm⟩:=by
    have e1:((fC now free l).drop k)[0]?=some ⟨a,f+sm⟩:=by grind[Hid.out,fromV]
    grind
   have⟨fn,tmps,assign,body,hy,hRd⟩:=HY.out W1.heap.size k ⟨a,f+sm⟩ A ak zA hs TA
   unfold encS at hy
   dsimp only at hy
   have avm:0<M.length->g<st:=fun h=>by have:=HA.out.g.lt h;omega
   have avn:=(sl2.below b3).fF (K:=fun j=>j=st) (W':=A) (by grind[aH.refl,aH.setCell]) (fun h e=>by grind)
   have⟨m,hm⟩:=aZ (q - c0 - n1)
   have y0:A.cell? ⟨st,0,none⟩=some (J a):=aj amA rfl
   have y1:A.cell? ⟨st,1,none⟩=some (J (f+sm)):=aj amA rfl
   have SL2:Hid _:=avn
   have aGm:Hid _:=amA
   have HM:Hid _:=hm
   have aGn:Hid _:=avm
   rw[hA,hm]
   clear hA avl ais b13 cA kA TA hs x3 xf3 b3 b2 sl1 sl2 avn amA hm avm hwr
   gi_wp2
   refine hRd.mono ?_
   rintro e w4 (⟨rfl,hT4,hC4⟩ | ⟨rfl,hx4⟩)
   ·have adu:w4.heap[st]?=some (.cells #[J a,J (f+sm)] 113 (0,0)):=by grind[aH.block,Hid.out]
    have z4:=bM zA hC4.size
    have HT4:Hid _:=hT4
    have hmm:=HM.out
    have hd2:(M.drop c0).drop n1=M.drop (c0+n1):=by simp_all
    have sl4:Sl g o2 w4 a2 (M.drop (c0+n1)) (cL - n1):=by grind[Hid.out,Sl.fF]
    rcases m with _ | m
    ·have HS4:Hid _:=adu
     clear adu sl4 hT4
     gi_wp2
     refine b_ (qV rfl _ _ _) rfl ⟨⟨_,rfl⟩,.inl ⟨W1.heap.size,by omega,?_⟩⟩
     have e1:fC now free l=(fC now free l).take k++fromV free l a:=by rw[← HDR.out,Fq]
     have e2:fromV free l a= [⟨a,pQ free l a⟩]:=Gf (ahf HP.out air.out.1 (by rw[HQ.out];omega))
     grind[Hid.out]
    ·obtain ⟨r,hr⟩:∃r,M[c0+n1]?=some r:=⟨_,aY (by rw[HQ.out];omega)⟩
     have hr0:(M.drop (c0+n1))[0]?=some r:=by grind
     have hat:=sl4.g.at_ (by grind)
     subst hat
     have⟨v0,v1⟩:=sl4.cell 0 r hr0
     have x4:w4.cell? ⟨st,0,none⟩=some (J a):=aj adu rfl
     have xf4:w4.frozen? ⟨st,0,none⟩=false:=aD adu
     have hnx:=ahe HP.out HS.out air.out.1 air.out.2.1 hr
     have HNX:Hid _:=hnx
     have SL4:Hid _:=sl4
     have HS4:Hid _:=adu
     simp only[ND,Nat.add_zero]at v0 v1
     clear adu sl4 hT4 hnx hr0
     gi_wp2
     go_roundw
     case rel=>
      refine⟨k+1,r.en,f+sm,c0+n1,o2,cL - n1,some ⟨g,o2,none⟩,?_,SL4.out.fF (K:=fun j=>j=st) ((aH.refl _ w4).setCell _ _ (.inl rfl)) (fun h e=>?_),by omega,by omega,?_,?_,bS w4 st 0 _ 113 _ HS4.out,?_,?_,by simp_all⟩
      ·grind
      ·grind[Hid.out]
      ·intro s hs;have:=air.out.1 s hs;have:=(fB HNX.out).1;omega
      ·have:=HF.out
       have h5:=VE (M:=M) c0 n1
       have h6:=air.out.2.2
       have h7:=HFS.out
       rw[pR,<-QU HP.out,h6]at h7
       omega
      ·have h8:=HDR.out
       rw[Gg HNX.out]at h8
       have:(fC now free l).drop (k+1)=((fC now free l).drop k).drop 1:=by rw[List.drop_drop]
       grind
      grind[Hid.out,aH.refl,aH.setCell,JZ]
     case measure=>
      have e1:aiq st (w4.setCell ⟨st,0,none⟩ (J r.en))=r.en:=by grind[aiq,World.setCell,World.cell?]
      have e2:aiq st wr=a:=by grind[aiq]
      rw[e1,e2]
      exact cnt_lt (fB HNX.out).1 (fB HNX.out).2.1
   ·gi_wp2
    refine b_ (qV rfl _ _ _) rfl ?_
    grind
end Pq
namespace Pq
open Go.RowKit Go.Shelf Pr
def adv (p:Option Addr) (cap:Nat) (fv:Value) (w:ay):Calls prog 297 #[.slice p 0 cap,fv] w fun e w'=>e=.returned (.tuple #[])/\w'=w:=AnyF.slices_SortFunc_none qz p cap fv w
theorem Pr.aR {w w':ay} (b:Z w w') {a:Addr} (h:w.cell? a=some v):w'.cell? a=some v:=(b.cell (aU w _ h)).trans h
def adw {B:Nat} (h:w.ownsRow B 108 2 v l.length (fJ l)):(v=.slice none 0 0/\l= [])\/∃g cap cur,v=.slice (some ⟨g,0,none⟩) l.length cap/\B<=g/\w.heap[g]?=some (.cells cur 108 (0,0))/\l.length<=cap/\cap<=maxLen/\∀j x,l[j]?=some x->cur[j*2]?=some (J x.nd)/\cur[j*2+1]?=some (J x.en):=by
 rcases h.2 with⟨rfl,h0⟩ | ⟨g,cap,cur,rfl,hb,hg,h1,h2,hs,ht⟩
 ·grind
 ·refine .inr ⟨g,cap,cur,rfl,hb,hg,h1,h2,fun j x hx=>?_⟩;have⟨e1,e2⟩:=LU l j x hx;grind
def adx (hA:eO w ao l) (hn:l.length*16<=140737488355328):
  Calls prog 240 #[.slice ao l.length c] w fun e w'=>∃(M:List Rn) (g cM:Nat) (aM:Option Addr),e=.returned (.slice aM l.length cM)/\M.Perm l/\Gh M/\Sl g 0 w' aM M cM/\cM<=maxLen/\(0<M.length->w.heap.size<=g/\g<w'.heap.size)/\Z w w':=by
 have⟨g0,o0,hG⟩:=hA.g;go_enter func240,ntmps240;go_wp2_with fail
 refine(Yf ao l.length c w).mono ?_;rintro e w1 ⟨rfl,hw1⟩;have b1:Z w w1:=by rw[hw1];exact(aI _ w).alloc (aC _) _
 have z1:w1.heap.size=w.heap.size+1:=by rw[hw1];simp
 have cb:w1.cell? ⟨w.heap.size,0,none⟩=some (.slice ao l.length c):=by rw[hw1];exact iQ w rfl
 have hS:=Yg cb (hG.fF (aH.of_below b1 (fun _=>False)) (fun _ h=>h)) ak;clear hw1 cb;have hsf:Calls prog 279 #[.func (.func 298) #[] #[.pointer (some ⟨w.heap.size,0,none⟩)],.func (.func 281) #[] #[]] w1 fun e w'=>∃(M:List Rn) (g cM:Nat) (aM:Option Addr),e=.returned (.slice aM l.length cM)/\M.Perm l/\Gh M/\Sl g 0 w' aM M cM/\cM<=maxLen/\(0<M.length->w1.heap.size<=g/\g<w'.heap.size)/\Z w1 w':=by
  go_enter func279,ntmps279;go_wp2_with fail
  refine(Vv hS hn).mono ?_;rintro e w2 ⟨v,rfl,hrow,b2⟩;rcases adw hrow with⟨rfl,rfl⟩ | ⟨g,cap,cur,rfl,hg1,hg2,hle,hmx,hcur⟩
  ·go_wp2_with fail
   refine(adv _ _ _ _).mono ?_;rintro e w3 ⟨rfl,rfl⟩;go_wp2;go_ret;exact⟨[],0,0,none,rfl,List.Perm.refl _,List.Pairwise.nil,⟨.inr ⟨rfl,rfl,rfl⟩,fun k r hr=>by simp at hr,aC _⟩,by decide,fun h=>by simp at h,b2⟩
  ·have hgl:=(aS.1 hg2).1;go_wp2_with fail
   refine(Am (cap:=cap) hgl ak hg2 hcur).mono ?_;rintro e w3 ⟨rfl,M,hp,hs,hM,hC⟩;go_wp2;go_ret;have b3:=hC.below b2 b2.size (fun i e=>by omega);refine⟨M,g,cap,some ⟨g,0,none⟩,rfl,hp,hs,⟨.inl rfl,fun k r hr=>?_,by rw[hp.length_eq];exact hle⟩,hmx,fun _=>⟨hg1,gL hgl hC.size⟩,b3⟩;have:=hM k r hr;simpa using this
 go_wp2_with fail
 refine hsf.mono ?_;rintro e w2 ⟨M,g,cM,aM,rfl,h1,h2,h3,h4,h5,h6⟩;go_wp2;go_ret;exact⟨M,g,cM,aM,rfl,h1,h2,h3,h4,fun h=>⟨by have:=(h5 h).1;omega,(h5 h).2⟩,b1.trans (h6.mono ak)⟩
def Y3 (W:ay):Gives 239 #[] encS [] (fun _=>False) W:=by
 intro n L N T Tx hn hN h0 hT hY;have T0:Hid (T W.heap.size 0 W):=h0 W (aI _ _);clear h0 hT hY hN;refine callsIn_of_wp func239 rfl trivial ?_ rfl;simp only[ntmps239,vD,dK,jh,Nat.reduceAdd,Nat.reduceSub,vE,vF,vG,vH,pY,mP];gi_wp2
 go_end0
 grind[Hid.out]
def ait {bn bf bo g o c:Nat} {now free:Int} {l M:List Rn} (h1:w.cell? ⟨bn,0,none⟩=some (J now)) (h2:w.cell? ⟨bf,0,none⟩=some (J free)) (h3:w.cell? ⟨bo,0,none⟩=some (.slice ao M.length c))
  (hA:Sl g o w ao M c) (hc:c<=maxLen) (hlen:l.length*16<=140737488355328) (hp:M.Perm l) (hs:Gh M) (hr:right free l=true):
  wN 241 #[.pointer (some ⟨bn,0,none⟩),.pointer (some ⟨bf,0,none⟩),.pointer (some ⟨bo,0,none⟩)] encS (fC now free l) (fun j=>j=bn\/j=bf\/j=bo\/(0<M.length/\j=g)) w:=by
 refine⟨fun j hj=>?_,fun W cW=>Y1 (cW.cell h1 (fun h=>h (.inl rfl))) (cW.cell h2 (fun h=>h (.inr (.inl rfl)))) (cW.cell h3 (fun h=>h (.inr (.inr (.inl rfl))))) (hA.fF cW (fun hl h=>h (.inr (.inr (.inr ⟨hl,rfl⟩))))) hc hlen hp hs hr⟩;rcases hj with rfl | rfl | rfl | ⟨h,rfl⟩
 ·exact aU w _ h1
 ·exact aU w _ h2
 ·exact aU w _ h3
 ·exact hA.g.lt h
def amB (now free:Int) (l:List Rn) (w:ay) (v:Value) (w':ay):Prop:=
 ∃gf lb D,v=.func (.func gf) #[] lb/\(∀args w,(callFunc gf args).run prog w=.ok (.enter gf args) w)/\wN gf lb encS (fC now free l) D w'/\(∀j,D j->w.heap.size<=j)
def amC (hA:eO w ao l) (hn:l.length*16<=140737488355328) (now free:Int):
  Calls prog 199 #[J now,J free,.slice ao l.length c] w fun e w'=>∃v,e=.returned v/\amB now free l w v w'/\Z w w':=by
 have⟨w1,hw1⟩:=aZ ((w.alloc (.cells #[J now] 3)).alloc (.cells #[J free] 3));have b1:Z w w1:=by rw[← hw1];exact((aI _ w).alloc (aC _) _).alloc dF _
 have z1:w1.heap.size=w.heap.size+1+1:=by rw[← hw1];simp
 have c1:w1.cell? ⟨w.heap.size,0,none⟩=some (J now):=by rw[← hw1];exact bK (iQ w rfl) _
 have c2:w1.cell? ⟨w.heap.size+1,0,none⟩=some (J free):=by rw[← hw1];have:=iQ (w.alloc (.cells #[J now] 3)) (cs:= #[J free]) (t:=3) (k:=0) rfl;rwa [iI]at this
 have hAR:=QO (c:=c) (hA.below b1) ak free;by_cases hr:right free l=true
 ·rw[hr]at hAR;go_enter func199,ntmps199;go_wp2_with fail
  refine hAR.mono ?_;rintro e w2 ⟨rfl,b2⟩;have B2:=b1.trans (b2.mono b1.size);go_wp2_with fail
  refine(adx (hA.below B2) hn).mono ?_;rintro e w3 ⟨M,g,cM,aM,rfl,m1,m2,m3,m4,m5,b3⟩;have B3:=B2.trans (b3.mono B2.size);have z2:=b2.size;have z3:=b3.size;have d1:(w3.alloc (.cells #[.slice aM l.length cM] 75)).cell? ⟨w.heap.size,0,none⟩=some (J now):=bK (aR b3 (aR b2 c1)) _;have d2:(w3.alloc (.cells #[.slice aM l.length cM] 75)).cell? ⟨w.heap.size+1,0,none⟩=some (J free):=bK (aR b3 (aR b2 c2)) _;have d3:(w3.alloc (.cells #[.slice aM l.length cM] 75)).cell? ⟨w3.heap.size,0,none⟩=some (.slice aM M.length cM):=by rw[m1.length_eq];exact iQ w3 rfl
  have b4:Z w3 (w3.alloc (.cells #[.slice aM l.length cM] 75)):=dY;clear c1 c2 hAR;go_wp2;go_ret;refine⟨_,rfl,⟨241,_,(fun j=>j=w.heap.size\/j=w.heap.size+1\/j=w3.heap.size\/(0<M.length/\j=g)),rfl,enters_of func241 aF rfl,?_,?_⟩,B3.alloc ak _⟩
  ·exact ait d1 d2 d3 (m3.below b4) m4 ak m1 m2 hr
  ·rintro j (rfl | rfl | rfl | ⟨h,rfl⟩)
   ·omega
   ·omega
   ·omega
   ·have:=(m5 h).1;omega
 ·rw[show right free l=false by simpa using hr]at hAR;have hS:fC now free l= []:=by unfold fC;rw[au hr]
  have HS:Hid _:=hS;clear hS;go_enter func199,ntmps199;go_wp2_with fail
  refine hAR.mono ?_;rintro e w2 ⟨rfl,b2⟩;have B2:=b1.trans (b2.mono b1.size);go_wp2;go_ret;refine⟨_,rfl,⟨239,#[],(fun _=>False),rfl,enters_of func239 aF rfl,⟨fun _ h=>h.elim,fun W _=>?_⟩,fun _ h=>h.elim⟩,B2⟩;rw[HS.out];exact Y3 W
end Pq
namespace Pq
open Go.RowKit Go.Shelf Pr
attribute [local go_sem] Oper.semAt_some
def cellsS (s:Stp):Array Value:= #[J s.at_,J s.fr]
end Pq
namespace Pq
open Go.RowKit Go.Shelf Pr
attribute [local go_sem] Oper.semAt_some
structure ShB (b:Nat) (need x y:Int) (z:Bool) (W:ay):Prop where
 n:W.heap[b]?=some (.cells #[J need] 3 (0,0))
 x:W.heap[b+1]?=some (.cells #[J x] 3 (0,0))
 y:W.heap[b+1+1]?=some (.cells #[J y] 3 (0,0))
 z:W.heap[b+1+1+1]?=some (.cells #[.bool z] 4 (0,0))
section
variable {b:Nat} {need x y x' y':Int} {z z':Bool} {W W':ay}
theorem ShB.same (h:ShB b need x y z W) (e:∀j,b<=j->j<b+4->W'.heap[j]?=W.heap[j]?):ShB b need x y z W':=
 ⟨(e _ ak ak).trans h.n,(e _ ak ak).trans h.x,(e _ ak ak).trans h.y,(e _ ak ak).trans h.z⟩
theorem ShB.lt (h:ShB b need x y z W):b+4<=W.heap.size:=(aS.1 h.z).1
def ShB.set (h:ShB b need x y z W) (x' y':Int) (z':Bool):ShB b need x' y' z' (((W.setCell ⟨b+1,0,none⟩ (J x')).setCell ⟨b+1+1,0,none⟩ (J y')).setCell ⟨b+1+1+1,0,none⟩ (.bool z')):=by
 have oth:∀(V:ay) (k m:Nat) (v:Value),k≠m->(V.setCell ⟨k,0,none⟩ v).heap[m]?=V.heap[m]?:=by grind[World.setCell]
 have e1:(W.setCell ⟨b+1,0,none⟩ (J x')).heap[b+1]?=some (.cells #[J x'] 3 (0,0)):=bS W _ 0 _ 3 _ h.x;have e2:((W.setCell ⟨b+1,0,none⟩ (J x')).setCell ⟨b+1+1,0,none⟩ (J y')).heap[b+1+1]?=some (.cells #[J y'] 3 (0,0)):=bS _ _ 0 #[J y] 3 _ ((oth _ _ _ _ ak).trans h.y);have e3:(((W.setCell ⟨b+1,0,none⟩ (J x')).setCell ⟨b+1+1,0,none⟩ (J y')).setCell ⟨b+1+1+1,0,none⟩ (.bool z')).heap[b+1+1+1]?=some (.cells #[.bool z'] 4 (0,0)):=bS _ _ 0 #[.bool z] 4 _ ((oth _ _ _ _ ak).trans ((oth _ _ _ _ ak).trans h.z));exact⟨(oth _ _ _ _ ak).trans ((oth _ _ _ _ ak).trans ((oth _ _ _ _ ak).trans h.n)),(oth _ _ _ _ ak).trans ((oth _ _ _ _ ak).trans e1),(oth _ _ _ _ ak).trans e2,e3⟩
def ShB.fin {d:Nat} (h:ShB b need x y z W) (hb:Z w W) (hB:w.heap.size<=d) (hd:b+4<=d):
  (W.putObj d (.deferred none)).cell? ⟨b+1,0,none⟩=some (J x)/\(W.putObj d (.deferred none)).cell? ⟨b+1+1,0,none⟩=some (J y)/\(W.putObj d (.deferred none)).cell? ⟨b+1+1+1,0,none⟩=some (.bool z)/\Z w (W.putObj d (.deferred none)):=by
 have h':ShB b need x y z (W.putObj d (.deferred none)):=by grind[World.putObj,same]
 exact⟨aj h'.x rfl,aj h'.y rfl,aj h'.z rfl,hb.grown (xK _ _ _) hb.size (fun k e=>by grind)⟩
def ady (W:ay) {b d:Nat} (hd:b+4<=d) (v1 v2 v3:Value):(((W.setCell ⟨b+1,0,none⟩ v1).setCell ⟨b+1+1,0,none⟩ v2).setCell ⟨b+1+1+1,0,none⟩ v3).heap[d]?=W.heap[d]?:=by
 grind[gy]
def LX {B:Nat} (h:Below B w W) (hB:B<=b) (v1 v2 v3:Value):Below B w (((W.setCell ⟨b+1,0,none⟩ v1).setCell ⟨b+1+1,0,none⟩ v2).setCell ⟨b+1+1+1,0,none⟩ v3):=
 ((h.setCell (p:=⟨b+1,0,none⟩) (by grind) v1).setCell (p:=⟨b+1+1,0,none⟩) (by grind) v2).setCell (p:=⟨b+1+1+1,0,none⟩) (by grind) v3
end
def Ir (hA:eO w ao l) (hn:l.length*16<=140737488355328) (now free need:Int):
  Calls prog 158 #[J now,J free,.slice ao l.length c,J need] w fun e w'=>e=.returned (SX need (aX now free l need))/\Z w w':=by
 have⟨w1,hw1⟩:=aZ ((((w.alloc (.cells #[J need] 3)).alloc (.cells #[J 0] 3)).alloc (.cells #[J 0] 3)).alloc (.cells #[.bool false] 4));have z1:w1.heap.size=w.heap.size+4:=by rw[← hw1];simp
 have b1:Z w w1:=by rw[← hw1];exact((((aI _ w).alloc (aC _) _).alloc dF _).alloc fE _).alloc fE _
 have y1:ShB w.heap.size need 0 0 false w1:=by
  rw[← hw1];refine⟨?_,?_,?_,?_⟩
  ·exact (iM _ _ _ fE).trans ((iM _ _ _ fE).trans ((iM _ _ _ dF).trans (aK w _)))
  ·have:=aK (w.alloc (.cells #[J need] 3)) (.cells #[J 0] 3);rw[iI]at this;exact(iM _ _ _ dF).trans ((iM _ _ _ dF).trans this)
  ·have:=aK ((w.alloc (.cells #[J need] 3)).alloc (.cells #[J 0] 3)) (.cells #[J 0] 3);rw[iI,iI]at this;exact(iM _ _ _ dF).trans this
  ·have:=aK (((w.alloc (.cells #[J need] 3)).alloc (.cells #[J 0] 3)).alloc (.cells #[J 0] 3)) (.cells #[.bool false] 4);rw[iI,iI,iI]at this;exact this
 have HW1:Hid _:=hw1;clear hw1;by_cases hnd:need<0
 ·have e:aX now free l need=none:=by simp[aX];omega
  rw[e];go_enter func158,ntmps158;go_wp2;rw[HW1.out];have e1:=fK 0 y1.x;have e2:=fK 0 y1.y;have e3:=fK 0 y1.z;exact b_ (v:=SX need none) (by simp[results,results158,go_sem,SX,e1,e2,e3]) rfl ⟨rfl,b1⟩
 have aAf:0<=need:=ak;have⟨S,hSS⟩:=aZ (fC now free l);have hsh:aX now free l need=kN need S:=by
  rw[← hSS];by_cases hr:right free l=true
  ·simp[aX,hr,aAf]
  ·have hS:fC now free l= []:=by unfold fC;rw[au hr]
   rw[hS];simp[aX,hr,kN]
 have hsb:∀s∈S,0<=s.fr/\s.fr<=256+256*l.length:=by rw[← hSS];exact Hy
 rw[hsh];refine(mg (n:=3)).1 ?_;refine JV func158 rfl trivial ?_ rfl;simp only[ntmps158,vD,dK,jh,Nat.reduceAdd,Nat.reduceSub,vE,vF,vG,vH,pY,mP];have hall:=amC (c:=c) (hA.below b1) hn now free;have⟨q,hq⟩:=aZ l.length;rw[hq]at hall hn hsb ⊢
 gi_wp2_with (first
  | (refine ⟨trivial,?_⟩;gi_at_call 199;rw[HW1.out];refine(mg.2 hall).mono ?_;rintro e w4 ⟨v,rfl,⟨gf,lb,D,rfl,heg,hS,hD⟩,b4⟩))
 clear hall;have x1:=y1.same (fun j _ hj=>b4.block j ak);have B4:=b1.trans (b4.mono b1.size);have sz:=b4.size;rw[hSS]at hS;refine OH aT (gf:=gf) (lb:=lb) rfl heg (fun _=>rfl) hS cellsS 113 (fun _=>False) (fun _ h=>h.elim)
  (fun _ k W=>ShB w.heap.size need 0 0 false W/\kN need S=kN need (S.drop k)/\Z w W)
  (fun c W=>c=.ret/\(∃s,kN need S=some s/\ShB w.heap.size need s.at_ (s.fr - need) true W)/\Z w W) ?h0 ?hT ?hTx
  (fun s p=>{tmps:= #[J now,J free,.slice ao q c,J need,undef,undef,undef,.pointer (some ⟨w.heap.size,0,none⟩),.pointer (some ⟨w.heap.size+1,0,none⟩),.pointer (some ⟨w.heap.size+1+1,0,none⟩),.pointer (some ⟨w.heap.size+1+1+1,0,none⟩),.pointer (some ⟨p,0,none⟩),J need,.bool false,J now,J free,.slice ao q c,.func (.func gf) #[] lb,.agg #[J s.at_,J s.fr],undef,undef,undef,undef,undef,undef,undef,undef,undef,undef],defers:= []}) ?assign ?body ?done ?stop
 case h0=>intro W hb hz;exact⟨x1.same (fun j _ hj=>hb.block j ak),by simp,B4.trans (hb.mono ak)⟩
 case hT=>rintro B k A A' hB ⟨h1,h2,hb⟩ hch;exact⟨h1.same (fun j _ hj=>hch.block j (by have:=h1.lt;omega) ak),h2,hch.below hb hb.size (fun i hi=>by omega)⟩
 case hTx=>rintro c W r o' ⟨h1,⟨s,h2,h3⟩,h4⟩ _;exact⟨h1,⟨s,h2,h3.same (fun j _ hj=>DU ak)⟩,h4.grown (xK _ _ _) h4.size (fun k e=>by cases e;omega)⟩
 case assign=>
  intro L s W K hK;unfold encS;unfold cellsS at hK;gi_wp2
  exact hK
 case body=>
  rintro B k s p W hB hs ⟨h1,h2,hb⟩ hp hpc hrec;unfold cellsS at hpc;have p0:=fK 0 hpc;have p1:=fK 1 hpc;have n0:=fK 0 h1.n;have⟨s0,s1⟩:=hsb s (dW hs);rw[KZ hs]at h2;by_cases ht:need<=s.fr
  ·rw[aJ ht]at h2;have c1:=fK 0 h1.x;have f1:W.frozen? ⟨w.heap.size+1,0,none⟩=false:=aD h1.x;have c2:=fK 0 h1.y;have f2:W.frozen? ⟨w.heap.size+1+1,0,none⟩=false:=aD h1.y;have c3:=fK 0 h1.z;have f3:W.frozen? ⟨w.heap.size+1+1+1,0,none⟩=false:=aD h1.z;have H1:Hid _:=h1;have H2:Hid _:=h2;have HB:Hid _:=hb;have hwr:IntKind.i64.wrap (s.fr - need)=s.fr - need:=(by rw[fO];omega);clear h1 h2 hb hrec hs hsb hpc;gi_wp2
   refine wpIn_mono (Q:=fun e _ W'=>e=.normal/\W'=(((W.setCell ⟨w.heap.size+1,0,none⟩ (J s.at_)).setCell ⟨w.heap.size+1+1,0,none⟩ (J (s.fr - need))).setCell ⟨w.heap.size+1+1+1,0,none⟩ (.bool true)).drew) ?_ ?_
   ·have hpb:w.heap.size+4<=p:=ak;clear H1 H2 HB B4 hS heg hD x1 y1 HW1 b1 hA hSS hsh hp hB sz z1 b4;gi_region
    all_goals exact⟨rfl,rfl⟩
   rintro e a' W' ⟨rfl,rfl⟩;gi_wp2
   have K3:=JZ ((W.setCell ⟨w.heap.size+1,0,none⟩ (J s.at_)).setCell ⟨w.heap.size+1+1,0,none⟩ (J (s.fr - need))) ⟨w.heap.size+1+1+1,0,none⟩ (.bool true);exact⟨((((JZ W _ _).trans (JZ _ _ _)).trans K3).trans (KeepsOthers.drew _)).from _,rfl,⟨s,H2.out,(H1.out.set s.at_ (s.fr - need) true).same (fun _ _ _=>rfl)⟩,(LX HB.out (aC _) _ _ _).drew⟩
  ·rw[au ht]at h2;have H1:Hid _:=h1;have H2:Hid _:=h2;have HB:Hid _:=hb;clear h1 h2 hb hrec hs hsb;have ht':=ht;gi_wp2
   exact⟨KeepsFrom.refl _ _,aH.refl _ _,H1.out,H2.out,HB.out⟩
 case done=>
  rintro d B W hd hB ⟨h1,h2,hb⟩ hK;rw[vY (aC _)]at h2;have h2':kN need S=none:=h2;have c1:=fK 0 h1.x;have f1:W.frozen? ⟨w.heap.size+1,0,none⟩=false:=aD h1.x;have c2:=fK 0 h1.y;have f2:W.frozen? ⟨w.heap.size+1+1,0,none⟩=false:=aD h1.y;have c3:=fK 0 h1.z;have f3:W.frozen? ⟨w.heap.size+1+1+1,0,none⟩=false:=aD h1.z;have H1:Hid _:=h1;have H2:Hid _:=h2';have HB:Hid _:=hb;have HK:Hid _:=hK;clear h1 h2 h2' hb hK hsb;gi_wp2
  have F:=(H1.out.set 0 0 false).fin (LX HB.out (aC _) _ _ _) (d:=d) ak ak;refine⟨by simp,.inl ⟨_,_,rfl,Fw ((ady W ak _ _ _).trans HK.out),?_⟩⟩;exact⟨SX need none,by simp[results,results158,go_sem,SX,F.1,F.2.1,F.2.2.1],by rw[H2.out],F.2.2.2⟩
 case stop=>
  rintro d c W hd ⟨rfl,⟨s,h1,h2⟩,hb⟩ hK;have H1:Hid _:=h1;have H2:Hid _:=h2;have HB:Hid _:=hb;have HK:Hid _:=hK;clear h1 h2 hb hK hsb;gi_wp2
  have F:=H2.out.fin HB.out (d:=d) ak ak;refine⟨by simp,.inl ⟨_,_,rfl,Fw HK.out,?_⟩⟩;exact⟨SX need (some s),by simp[results,results158,go_sem,SX,F.1,F.2.1,F.2.2.1],by rw[H1.out],F.2.2.2⟩
end Pq
namespace Pq
open Go
def GA {P:Program} {w:ay} {ops:Array Oper} {o:Oper} {a:Act} {K:Act->World->Prop} {Q:Exit->Act->World->Prop} {E:Prop} (hgd:o.guard=none) (s x:Operand) (t:TypeId)
  (ho:o.op=.call {callee:=.builtin .append,args:= #[s,x],argTypes:= #[t,t]})
  (base:Nat) (e:TypeId) (i:TypeInfo) (z:Value) (size bytes:Nat) (ht:P.underlying t=some (.slice e)) (hi:P.info? e=some i) (hz:i.zero=some z)
  (hsize:i.size=size) (hby:i.bytes=bytes) (hzs:z.cells.size=size) (hsz:0<size)
  (v:Value) (n:Nat) (xs:List Value) (hs:a.eval s=v) (hown:w.ownsRow base e size v n xs)
  (ad:Addr) (m c:Nat) (news:List Value) (hx:a.eval x=.slice (some ad) m c) (hl:news.length=m*size) (hnews:∀j u,news[j]?=some u->w.cell? (ad.add j)=some u) (h1:∀u∈news,u.oneCell'=true)
  (hm:0<m) (h63:n+m<=maxLen) (hbytes:((n+m)+(n+m) / 4+192)*bytes<=281474976710656) (hbase:base<=w.heap.size)
  (h:∀g cap w',w'.ownsRow base e size (.slice (some ⟨g,0,none⟩) (n+m) cap) (n+m) (xs++news)->w.grownBy w' v.ownBlock->K (a.put o.dst (.slice (some ⟨g,0,none⟩) (n+m) cap)) w'):
  if Region.wanted o (yielded ops a.tmps)=true then Oper.wp P o a w K Q else E:=by
 have hw:Region.wanted o (yielded ops a.tmps)=true:=by grind[Region.wanted]
 rw[aJ hw];refine wp_append_own_wide w s x t ho base e i z size bytes ht hi hz hsize hby hzs hsz v n xs hs hown ad m c news hx hl hnews h1 h63 hbytes hbase fun v' w' h2 h3 _=>?_;rcases h2.2 with⟨_,h0⟩ | ⟨g,cap,cur,rfl,_⟩
 ·omega
 grind
end Pq
end Go.Proofs.YtdhifkbbjlhcaaaGreatDoor
