import Derived.Test.YtdhifkbbjlhcaaaGreatDoorKz44
import Derived.Deep.MidRow
import Derived.Test.YtdhifkbbjlhcaaaGreatDoorKz46
set_option maxRecDepth 20000
set_option maxHeartbeats 2000000
set_option linter.defProp false
namespace Go.Proofs.YtdhifkbbjlhcaaaGreatDoor
open Go.Proofs.Tryz
variable {W w:ay} {ao:Option Addr} {c:Cg.Cf} {ca g k:Nat} {js:List Jv} {la:List Tr.Ac} {now:Int} {qs:List Pj} {v:Value}
section
open Go.RowKit Wd Tr Cg Ld
def JW (W:ay) (g:Nat) (qs:List Pj):Prop:=W.heap[g]?=some (.cells (nZ qs).toArray 38 (0,0))
def zPj:Pj:=⟨TN,none,0⟩
def Zk (n:Nat):madeCells #[J 0,J 0,J 0,J 0,J 0,J 0,J 0,.slice none 0 0] (n*8)=(nZ (List.replicate n zPj)).toArray:=by
 apply Array.ext
 ·simp[madeCells,OW]
 ·intro j h1 h2;have hj:j<n*8:=by grind[madeCells]
  have e0:=EN (ps:=List.replicate n zPj) (n:=j / 8) (i:=j % 8) (p:=zPj) (by rw[List.getElem?_replicate,aJ ak]) ak;rw[show j / 8*8+j % 8=j by omega]at e0;have e1:(nZ (List.replicate n zPj)).toArray[j]?=(Dw zPj)[j % 8]?:=by grind
  have e2:(madeCells #[J 0,J 0,J 0,J 0,J 0,J 0,J 0,.slice none 0 0] (n*8))[j]?=(Dw zPj)[j % 8]?:=by rcases (by omega:j % 8=0\/j % 8=1\/j % 8=2\/j % 8=3\/j % 8=4\/j % 8=5\/j % 8=6\/j % 8=7)with h | h | h | h | h | h | h | h<;>simp[madeCells,h,hj,Dw,zPj,TN]
  grind
def Pm {a0 a1 a2 a3 a4 a5 a6 a7:Value}:∀(qs:List Pj) (k:Nat) (p:Pj),k<qs.length->Dw p= [a0,a1,a2,a3,a4,a5,a6,a7]->((((((((nZ qs).set (k*8) a0).set (k*8+1) a1).set (k*8+2) a2).set (k*8+3) a3).set (k*8+4) a4).set (k*8+5) a5).set (k*8+6) a6).set (k*8+7) a7=nZ (qs.set k p)
 | [],k,p,h,_=>by simp at h
 | q::qs,0,p,_,e=>by
  rw[jX,lq,lq,e]
  rfl
 | q::qs,k+1,p,h,e=>by
  have ih:=Pm qs k p (by simpa using h) e
  rw[jg,lq,lq,<-ih]
  unfold Dw
  rw[show (k+1)*8=k*8+1+1+1+1+1+1+1+1 by omega,show k*8+1+1+1+1+1+1+1+1+1=k*8+1+1+1+1+1+1+1+1+1 from rfl]
  simp only[mP,pY,jg,Nat.add_assoc,Nat.reduceAdd]
def JW.put (h:JW W g qs) {p:Pj} (hk:k<qs.length):JW (W.setCells g (k*8) (Dw p)) g (qs.set k p):=by
 have e:=Pm qs k p hk rfl;unfold JW at h ⊢;rw[← e];have h1:=bS W g (k*8) _ _ (J p.v.ac) h;have h2:=bS _ g (k*8+1) _ _ (J p.v.nd) h1;have h3:=bS _ g (k*8+2) _ _ (J p.v.lm) h2;have h4:=bS _ g (k*8+3) _ _ (J p.v.sb) h3;have h5:=bS _ g (k*8+4) _ _ (J p.v.st) h4;have h6:=bS _ g (k*8+5) _ _ (J p.v.sr) h5;have h7:=bS _ g (k*8+6) _ _ (J p.v.en) h6;have h8:=bS _ g (k*8+7) _ _ (.slice p.sa p.v.set.length p.sc) h7;simp only[jO]at h8;exact h8
def JW.at (h:JW W g qs) {q:Pj} (hq:qs[k]?=some q) (i:Nat) (v:Value) (hv:(Dw q)[i]?=some v):W.cell? ⟨g,k*8+i,none⟩=some v:=by
 have hi:i<8:=by have:=(bO.1 hv).1;simpa [Dw]using this
 grind[aj,EN,JW]
theorem JW.free (h:JW W g qs) (k:Nat):W.frozen? ⟨g,k,none⟩=false:=aD (show W.heap[g]?=_ from h)
def Tryz.awn:(prog.info? 38).map (fun i=>(i.zero,i.size,i.bytes))=some (some (.agg #[J 0,J 0,J 0,J 0,J 0,J 0,J 0,.slice none 0 0]),8,80):=aF
def ar1 (w:ay) {n:Nat} (hn:n<=4096):∃w',(Instr.makeSlice 30 (J (n:Int)) (J (n:Int))).run prog w=.ok (.slice (some ⟨w.heap.size,0,none⟩) n n) w'/\JW w' w.heap.size (List.replicate n zPj)/\Z w w'/\w'.heap.size=w.heap.size+1:=by
 have⟨i0,hi0,hz0,hz1,hz2⟩:=fA Tryz.awn;have hmk:=run_make (P:=prog) w 30 38 i0 _ underlying30 hi0 hz0 .i64 .i64 (n:Int) (n:Int) ak (kL _) (by rw[hz2];omega) ak;rw[show ((n:Int)).toNat=n by omega,hz1]at hmk;refine⟨_,hmk,?_,dY,by simp⟩;unfold JW;rw[← Zk n];exact aK w _
structure CpS (w:ay) (ps:List Pj) (k:Nat) (W:ay) (qs:List Pj):Prop where
 len:qs.length=ps.length
 same:(qs.take k).map Pj.v=(ps.take k).map Pj.v
 jw:JW W w.heap.size qs
 sets:∀q∈qs.take k,xg (fun j=>w.heap.size<j) W q
 dQ:Z w W
def AP {B g:Nat} (hg:B<=g):∀(vs:List Value) (o:Nat) {W:ay},Below B w W->Below B w (W.setCells g o vs)
 | [],_,_,h=>h
 | v::vs,o,W,h=>AP hg vs (o+1) (W:=W.setCell ⟨g,o,none⟩ v) (h.setCell (p:=⟨g,o,none⟩) hg v)
def AQ {g j:Nat} (h:j≠g):∀(vs:List Value) (o:Nat) (W:ay),(W.setCells g o vs).heap[j]?=W.heap[j]?
 | [],_,_=>rfl
 | v::vs,o,W=>(AQ h vs (o+1) (W.setCell ⟨g,o,none⟩ v)).trans (gy _ _ _ _ ak)
def setCells_size:∀(vs:List Value) (o:Nat) (W:ay),(W.setCells g o vs).heap.size=W.heap.size
 | [],_,_=>rfl
 | v::vs,o,W=>(setCells_size vs (o+1) (W.setCell ⟨g,o,none⟩ v)).trans (vV ..)
theorem take_set {α:Type} {l:List α} {a:α} (h:k<l.length):(l.set k a).take (k+1)=l.take k++ [a]:=by
 grind[kT,Cw,List.take_set]
theorem JW.below {W W':ay} (h:JW W g qs) (b:Z W W'):JW W' g qs:=(b.block g (aS.1 (show W.heap[g]?=_ from h)).1).trans (show W.heap[g]?=_ from h)
def MB {S T:Nat->Prop} {jo:Option Addr} {cap:Nat} {ps:List Pj} (hr:uq S w jo cap ps) (hs:∀p∈ps,xg T w p) (hm:ps.length<=4096):
  Calls prog 28 #[.slice jo ps.length cap] w fun e w'=>e=.returned (.slice (some ⟨w.heap.size,0,none⟩) ps.length ps.length)/\∃qs,CpS w ps ps.length w' qs:=by
 have⟨w1,hmk,hJ1,b1,hz1⟩:=ar1 w hm;have⟨n,hn⟩:=aZ ps.length;rw[hn]at hmk hJ1 hm ⊢;have HC0:Hid (CpS w ps 0 w1 (List.replicate n zPj)):=⟨by rw[List.length_replicate,hn],by simp,hJ1,fun q hq=>(by simp at hq),b1⟩;have HAT:Hid (∀k p,ps[k]?=some p->_):=fun k p hp=>hr.at hp;have HN:Hid _:=hn;have HSJ:Hid _:=hs;clear hJ1 b1 hr hn hs;go_enter func28,ntmps28;go_wp2;clear hmk;go_loopg [4,5,11] n (fun gk u u2 p wr=>∃(k:Nat),k+gk=n/\p=J k/\∃qs,CpS w ps k wr qs)
 case atStart=>exact⟨0,by omega,rfl,_,HC0.out⟩
 case round=>
  obtain⟨k,hk,rfl,qs,hC⟩:=hrel;by_cases hlt:k<n
  ·have hlt':(k:Int)<n:=ak;obtain⟨p,hp⟩:∃p,ps[k]?=some p:=⟨_,aY (by rw[HN.out];exact hlt)⟩;obtain⟨g,rfl,_,hgl,hc,_⟩:=HAT.out k p hp;have hsp:=HSJ.out p (dW hp);have hcb:∀i v,(Dw p)[i]?=some v->wr.cell? ⟨g,k*8+i,none⟩=some v:=fun i v hv=>aR hC.dQ (hc i v hv);have c0:wr.cell? ⟨g,k*8,none⟩=some (J p.v.ac):=hcb 0 _ rfl;have c1:=hcb 1 _ rfl;have c2:=hcb 2 _ rfl;have c3:=hcb 3 _ rfl;have c4:=hcb 4 _ rfl;have c5:=hcb 5 _ rfl;have c6:=hcb 6 _ rfl;have c7:=hcb 7 _ rfl;have⟨W2,hW2⟩:=aZ (wr.alloc (.cells #[J p.v.ac,J p.v.nd,J p.v.lm,J p.v.sb,J p.v.st,J p.v.sr,J p.v.en,.slice p.sa p.v.set.length p.sc] 38));have b2:Z wr W2:=(by rw[← hW2];exact dY);have hz2:W2.heap.size=wr.heap.size+1:=(by rw[← hW2];simp);have hG2:W2.heap[wr.heap.size]?=some (.cells (Dw p).toArray 38 (0,0)):=(by rw[← hW2];exact aK wr _);have k0:=fK 0 hG2;have k1:=fK 1 hG2;have k2:=fK 2 hG2;have k3:=fK 3 hG2;have k4:=fK 4 hG2;have k5:=fK 5 hG2;have k6:=fK 6 hG2;have k7:=fK 7 hG2;have hBw:=hC.dQ.trans (b2.mono hC.dQ.size);have hcp:=V5 (w:=W2) p.v (sc:=p.sc) (hsp.kept hBw.size (fun j hj _=>hBw.block j hj)).at_ hsp.nil hsp.few;unfold BK at hcp;have hwz:=(aS.1 (show wr.heap[w.heap.size]?=_ from hC.jw)).1;have HJ2:Hid (JW W2 w.heap.size qs):=JW.below hC.jw b2;have hlk:k<qs.length:=(by rw[hC.len,HN.out];exact hlt);have HC:Hid _:=hC;have DL:Hid _:=hBw;have Hb2:Hid _:=b2;have aA1:Hid _:=hsp.few;have HP:Hid _:=hp;clear hC hBw hcb hc hsp hG2 b2 hp;obtain⟨q0,hq0⟩:∃q0,qs[k]?=some q0:=⟨_,aY hlk⟩;have HQ0:Hid _:=hq0;clear hq0;go_wp2_with (go_at_call 51;refine hcp.mono ?_;rintro e w3 ⟨u3,rfl,hrow3,b3⟩;obtain⟨ua,uc,rfl⟩:=bE hrow3;have EY:Hid (JW w3 w.heap.size qs):=JW.below HJ2.out b3;have m0:w3.cell? ⟨w.heap.size,k*8,none⟩=some (J q0.v.ac):=JW.at EY.out HQ0.out 0 _ rfl;have m1:=JW.at EY.out HQ0.out 1 _ rfl;have m2:=JW.at EY.out HQ0.out 2 _ rfl;have m3:=JW.at EY.out HQ0.out 3 _ rfl;have m4:=JW.at EY.out HQ0.out 4 _ rfl;have m5:=JW.at EY.out HQ0.out 5 _ rfl;have m6:=JW.at EY.out HQ0.out 6 _ rfl;have m7:=JW.at EY.out HQ0.out 7 _ rfl;have z0:w3.frozen? ⟨w.heap.size,k*8,none⟩=false:=JW.free EY.out _;have z1:w3.frozen? ⟨w.heap.size,k*8+1,none⟩=false:=JW.free EY.out _;have z2:w3.frozen? ⟨w.heap.size,k*8+2,none⟩=false:=JW.free EY.out _;have z3:w3.frozen? ⟨w.heap.size,k*8+3,none⟩=false:=JW.free EY.out _;have z4:w3.frozen? ⟨w.heap.size,k*8+4,none⟩=false:=JW.free EY.out _;have z5:w3.frozen? ⟨w.heap.size,k*8+5,none⟩=false:=JW.free EY.out _;have z6:w3.frozen? ⟨w.heap.size,k*8+6,none⟩=false:=JW.free EY.out _;have z7:w3.frozen? ⟨w.heap.size,k*8+7,none⟩=false:=JW.free EY.out _;have awo:Hid _:=hrow3;have Hb3:Hid _:=b3;clear hrow3 b3)
   have eV:((((((((w3.setCell ⟨w.heap.size,k*8,none⟩ (J p.v.ac)).setCell ⟨w.heap.size,k*8+1,none⟩ (J p.v.nd)).setCell ⟨w.heap.size,k*8+2,none⟩ (J p.v.lm)).setCell ⟨w.heap.size,k*8+3,none⟩ (J p.v.sb)).setCell ⟨w.heap.size,k*8+4,none⟩ (J p.v.st)).setCell ⟨w.heap.size,k*8+5,none⟩ (J p.v.sr)).setCell ⟨w.heap.size,k*8+6,none⟩ (J p.v.en)).setCell ⟨w.heap.size,k*8+7,none⟩ (.slice ua p.v.set.length uc))=w3.setCells w.heap.size (k*8) (Dw ⟨p.v,ua,uc⟩):=rfl;rw[eV];have ot:=fun j (hj:j≠w.heap.size)=>AQ hj (Dw ⟨p.v,ua,uc⟩) (k*8) w3;have zs:=setCells_size (g:=w.heap.size) (Dw ⟨p.v,ua,uc⟩) (k*8) w3;have hz3:=Hb3.out.size;have H5:Hid (CpS w ps (k+1) (w3.setCells w.heap.size (k*8) (Dw ⟨p.v,ua,uc⟩)) (qs.set k ⟨p.v,ua,uc⟩)):=by
    refine⟨by rw[Fz];exact HC.out.len,?_,EY.out.put hlk,fun q hq=>?_,AP (aC _) _ _ (DL.out.trans (Hb3.out.mono DL.out.size))⟩
    ·rw[take_set hlk,p9,HC.out.same,kT,HP.out,Option.toList_some,p9];rfl
    ·rw[take_set hlk]at hq;rcases pX.1 hq with hq | hq
     ·refine (HC.out.sets q hq).kept ak (fun j hj hgj=>?_);rw[ot j ak,Hb3.out.block j ak,Hb2.out.block j hj]
     ·simp at hq;subst hq;obtain⟨sa,sc,e1,i1⟩:=xD (lab:=fun _=>9) awo.out (fun _ _=>rfl);injection e1 with e1 _ e3;subst e1;subst e3;have i2:=og (lab':=fun _=>9) (W':=w3.setCells w.heap.size (k*8) (Dw ⟨p.v,ua,uc⟩)) i1 ak (fun _ _ h=>h) (fun g' o k' e=>ot g' (by have:=(i1.own g' o k' e).2.1;omega));exact⟨i2.at_,i2.nil,i2.cap,aA1.out,fun g' o k' e=>by obtain⟨_,a2,a3,a4⟩:=i2.own g' o k' e;exact⟨by omega,a3,a4⟩⟩
   clear eV;go_roundg (n - (k+1))
   case measure=>omega
   case rel=>exact⟨k+1,by omega,by go_num,_,H5.out⟩
  ·have hlt':¬(k:Int)<n:=ak;obtain rfl:k=n:=ak;have HC:Hid _:=hC;clear hC;go_wp2;go_ret;exact⟨rfl,qs,HC.out⟩
structure StQ (w:ay) (la:List Ac) (ps:List Pj) (u:Value) (g:Nat) (qs:List Pj) (W:ay):Prop where
 acc:W.ownsRow w.heap.size 58 5 u la.length (dP la)
 jobs:JW W g qs
 same:qs.map Pj.v=ps.map Pj.v
 len:qs.length=ps.length
 lo:w.heap.size<=g
 ahead:∀k,u.ownBlock=some k->k<g
 sets:∀q∈qs,xg (fun j=>g<j) W q
 dQ:Z w W
section
variable {lab:Nat->Nat} {w:ay} {x:Nat} {c:Cf} {now hd:Int} {la:List Ac} {jw:List Jv} {L:List A3.Ag.En} {F:Nat} {P:EM}
def adZ (h:iH lab w x c now hd la jw L F P) (hw:Wf (la.map aB)) (hl0:la≠ []) (kI:la.length<=1000000) (hm:P.ps.length<=4096):
  Calls prog 11 #[.pointer (some ⟨x,0,none⟩)] w fun e w'=>∃u,∃g:Nat,e=.returned (.agg (uL c now u (.slice (some ⟨g,0,none⟩) P.ps.length P.ps.length) hd))/\∃qs,StQ w la P.ps u g qs w':=by
 have⟨W,hW⟩:=aZ (w.alloc (.cells #[J 0,J 0,J 0,J 0,J 0,J 0,J 0,J 0,J 0,.slice none 0 0,.slice none 0 0,J 0] 32));have bW:Z w W:=by rw[← hW];exact dY
 have oz:W.heap.size=w.heap.size+1:=by rw[← hW];simp
 have hG:W.heap[w.heap.size]?=some (.cells #[J 0,J 0,J 0,J 0,J 0,J 0,J 0,J 0,J 0,.slice none 0 0,.slice none 0 0,J 0] 32 (0,0)):=by rw[← hW];exact aK w _
 have O_:=Mk (h.below bW) hw hl0 kI;unfold uL at O_;have H:Hid _:=h;have HB:Hid _:=bW;have HG:Hid _:=hG;have HZW:Hid _:=oz;clear h bW hG oz hw hl0 kI;go_enter func11,ntmps11;go_upto_region 2 with(go_at_call 27;refine O_.mono ?_;rintro e w1 ⟨u1,rfl,MC,b1⟩;obtain⟨ua,uc,rfl⟩:=bE MC)
 have⟨W2,hW2⟩:=aZ (w1.alloc (.cells #[J c.nodes,J c.queue,J c.limit,J c.age,J c.fair,J c.size,J c.period,J c.half,J now,.slice ua la.length uc,.slice P.jo P.ps.length P.cap,J hd] 32));have b2:Z w1 W2:=by rw[← hW2];exact dY
 have hz2:W2.heap.size=w1.heap.size+1:=by rw[← hW2];simp
 have hG2:W2.heap[w1.heap.size]?=some (.cells (uL c now (.slice ua la.length uc) (.slice P.jo P.ps.length P.cap) hd) 32 (0,0)):=by rw[← hW2];exact aK w1 _
 have c10:=fK 10 hG2;have hz1:=b1.size;have B2:=(HB.out.trans (b1.mono HB.out.size)).trans (b2.mono (bM HB.out.size b1.size));have h2:=H.out.below B2;have aA3:=MB h2.row h2.sets hm;have HG2:Hid _:=hG2;have ai6:Hid _:=eG MC b2;have HB2:Hid _:=B2;have HGW:Hid (W2.heap[w.heap.size]?=some (.cells #[J 0,J 0,J 0,J 0,J 0,J 0,J 0,J 0,J 0,.slice none 0 0,.slice none 0 0,J 0] 32 (0,0))):=(b2.block _ (by have:=HZW.out;omega)).trans ((b1.block _ (by have:=HZW.out;omega)).trans HG.out);have hrl:∀k,(Value.slice ua la.length uc).ownBlock=some k->w.heap.size+1<k/\k<w1.heap.size:=fun k hk=>by have:=mV MC k hk;have:=HZW.out;omega
 have HRL:Hid _:=hrl;have hzo:w.heap.size+1<=w1.heap.size:=by have:=HZW.out;omega
 clear MC b1 b2 B2 h2 hG2 O_ hrl;try rw[hW2]
 go_upto_region 3 with(go_at_call 28;refine aA3.mono ?_;rintro e w3 ⟨rfl,hq3⟩;obtain⟨qs,hC3⟩:=hq3;have hg3:=(hC3.dQ.block w1.heap.size ak).trans HG2.out;have k10:=fK 10 hg3;have f10:w3.frozen? ⟨w1.heap.size,10,none⟩=false:=aD hg3;have Sw:Hid _:=hg3;have HC3:Hid _:=hC3;clear hC3 hg3 c10)
 have hGV:(w3.setCell ⟨w1.heap.size,10,none⟩ (.slice (some ⟨w1.heap.size+1,0,none⟩) P.ps.length P.ps.length)).heap[w1.heap.size]?=some (.cells (uL c now (.slice ua la.length uc) (.slice (some ⟨w1.heap.size+1,0,none⟩) P.ps.length P.ps.length) hd) 32 (0,0)):=bS w3 w1.heap.size 10 _ _ _ Sw.out;have oV:∀j,j≠w1.heap.size->(w3.setCell ⟨w1.heap.size,10,none⟩ (.slice (some ⟨w1.heap.size+1,0,none⟩) P.ps.length P.ps.length)).heap[j]?=w3.heap[j]?:=fun j hj=>gy _ _ _ _ (by simpa using hj);have zV:(w3.setCell ⟨w1.heap.size,10,none⟩ (.slice (some ⟨w1.heap.size+1,0,none⟩) P.ps.length P.ps.length)).heap.size=w3.heap.size:=vV ..;have b3:=HC3.out.dQ;have z3:=b3.size;have HRV:Hid ((w3.setCell ⟨w1.heap.size,10,none⟩ (.slice (some ⟨w1.heap.size+1,0,none⟩) P.ps.length P.ps.length)).heap[w.heap.size]?=some (.cells #[J 0,J 0,J 0,J 0,J 0,J 0,J 0,J 0,J 0,.slice none 0 0,.slice none 0 0,J 0] 32 (0,0))):=(oV _ ak).trans ((b3.block _ ak).trans HGW.out);have HBV:Hid (Z w (w3.setCell ⟨w1.heap.size,10,none⟩ (.slice (some ⟨w1.heap.size+1,0,none⟩) P.ps.length P.ps.length))):=(HB2.out.trans (b3.mono HB2.out.size)).setCell (p:=⟨w1.heap.size,10,none⟩) (by show w.heap.size<=w1.heap.size;omega) _;have HOV:Hid _:=oV;have HZV:Hid _:=zV;clear oV zV k10 f10 b3;generalize w3.setCell ⟨w1.heap.size,10,none⟩ (.slice (some ⟨w1.heap.size+1,0,none⟩) P.ps.length P.ps.length)=V at *;have k0:=fK 0 hGV;have k1:=fK 1 hGV;have k2:=fK 2 hGV;have k3:=fK 3 hGV;have k4:=fK 4 hGV;have k5:=fK 5 hGV;have k6:=fK 6 hGV;have k7:=fK 7 hGV;have k8:=fK 8 hGV;have k9:=fK 9 hGV;have k10:=fK 10 hGV;have k11:=fK 11 hGV;clear hGV;go_wp2_with (refine eF rfl 32 (.tmp 2) (.tmp 10) rfl w.heap.size (uL c now (.slice ua la.length uc) (.slice (some ⟨w1.heap.size+1,0,none⟩) P.ps.length P.ps.length) hd) gM (by simp[Act.eval,uL]) 32 _ HRV.out Tryz.RH rfl (by simp[uL,Value.oneCell']) ?_)
 have hC:=HC3.out;have hj:=hC.jw;rw[hz2]at hj;have same:=hC.same;rw[← hC.len,oC,hC.len,oC]at same;have ow:∀j,j≠w1.heap.size->j≠w.heap.size->(V.setRow w.heap.size (uL c now (.slice ua la.length uc) (.slice (some ⟨w1.heap.size+1,0,none⟩) P.ps.length P.ps.length) hd)).heap[j]?=w3.heap[j]?:=fun j h1 h2=>(gX _ _ j _ h2).trans (HOV.out j h1);have zz:(V.setRow w.heap.size (uL c now (.slice ua la.length uc) (.slice (some ⟨w1.heap.size+1,0,none⟩) P.ps.length P.ps.length) hd)).heap.size=w3.heap.size:=(show _=V.heap.size by simp[World.setRow]).trans HZV.out;refine aiZ results11 rfl rfl HRV.out rfl ⟨_,w1.heap.size+1,rfl,qs,⟨?_,(ow _ ak ak).trans hj,same,hC.len,by omega,fun k hk=>by have:=(HRL.out k hk).2;omega,fun q hq=>?_,?_⟩⟩
 ·have hr:=row_of ai6.out (fun k hk=>(ow k (by have:=(HRL.out k hk).2;omega) (by have:=(HRL.out k hk).1;omega)).trans (hC.dQ.block k (by have:=(HRL.out k hk).2;omega)))
  exact iL hr (by have:=HZW.out;omega)
 ·have hs:=hC.sets q (by rw[← hC.len,oC];exact hq)
  rw[hz2]at hs;exact hs.kept ak (fun j _ hgj=>ow j ak ak)
 ·exact aH.below (nE (K:=fun k=>k=w.heap.size) (aH.refl _ V) (.inl rfl) _) HBV.out HBV.out.size (fun i hi=>by omega)
end
end
section
open Go.RowKit Wd Tr Cg Ld
def usF (la:List Ac) (j:Nat):Int:=match la[j]? with
 | some a=>a.us
 | none=>0
def RQ (hA:kD w ao la) (hl:la.length<=64):
  Calls prog 79 #[.slice ao la.length ca] w fun e w'=>e=.returned (.slice (some ⟨w.heap.size,0,none⟩) la.length la.length)/\bZ w' w.heap.size la.length (usF la)/\Z w w':=by
 have⟨w1,hmk,hR1,b1,hz1⟩:=Ah w hl;obtain⟨g,o,hg,hc⟩:=hA;have⟨n,hn⟩:=aZ la.length;rw[hn]at hmk hR1 hl hg ⊢;have HN:Hid _:=hn;have HC0:Hid (bZ w1 w.heap.size n (fun j=>if j<0 then usF la j else 0)/\Z w w1):=⟨hR1.congr (fun j _=>by simp),b1⟩;have HAT:Hid _:=hc;have HGO:Hid _:=hg;clear hR1 b1 hn hc hg;go_enter func79,ntmps79;go_wp2;clear hmk;go_loopg [4,5,11] n (fun gk u u2 p wr=>∃(k:Nat),k+gk=n/\p=J k/\bZ wr w.heap.size n (fun j=>if j<k then usF la j else 0)/\Z w wr)
 case atStart=>exact⟨0,by omega,rfl,HC0.out⟩
 case round=>
  obtain⟨k,hk,rfl,hR,bR⟩:=hrel;by_cases hlt:k<n
  ·have hlt':(k:Int)<n:=ak;obtain⟨a,ha⟩:∃a,la[k]?=some a:=⟨_,aY (by rw[HN.out];exact hlt)⟩;have eao:=HGO.out ak;subst eao;have hAt:=(HAT.out k a ha).below bR;obtain⟨a0,a1,a2,a3,a4⟩:=hAt;have⟨W2,hW2⟩:=aZ (wr.alloc (.cells #[.string a.nm,J a.pa,J a.sh,.bool a.cl,O a.us] 58));have b2:Z wr W2:=(by rw[← hW2];exact dY);have hG2:W2.heap[wr.heap.size]?=some (.cells #[.string a.nm,J a.pa,J a.sh,.bool a.cl,O a.us] 58 (0,0)):=(by rw[← hW2];exact aK wr _);have k4:=fK 4 hG2;have hR2:=hR.below b2;have cf:=hR2.cell hlt;have ff:=hR2.free k;have eu:usF la k=a.us:=(by unfold usF;rw[ha]);have hR3:bZ (W2.setCell ⟨w.heap.size,k,none⟩ (O a.us)) w.heap.size n (fun j=>if j<k+1 then usF la j else 0):=hR2.setAt (by simp[eu]) (fun j _ hne=>by
    by_cases h1:j<k
    ·rw[aJ h1,aJ ak]
    ·rw[au h1,au ak])
   have b3:Z w (W2.setCell ⟨w.heap.size,k,none⟩ (O a.us)):=(bR.trans (b2.mono bR.size)).setCell (p:=⟨w.heap.size,k,none⟩) (aC _) _;have HR3:Hid _:=hR3;have HB3:Hid _:=b3;clear hR hR2 hR3 b3 b2 bR hG2 eu ha;go_wp2;go_roundg (n - (k+1))
   case measure=>omega
   case rel=>exact⟨k+1,by omega,by go_num,HR3.out,HB3.out⟩
  ·have hlt':¬(k:Int)<n:=ak;obtain rfl:k=n:=ak;have HR:Hid (bZ wr w.heap.size k (usF la)):=hR.congr (fun j hj=>by rw[aJ hj]);have HB:Hid _:=bR;clear hR bR;go_wp2;go_ret;exact⟨rfl,HR.out,HB.out⟩
def I9 (t1 t2 d1 d2 bb gj wm a1 a2 x k:Nat):Nat:=if t1<=k/\k<t2 then 1 else if d1<=k/\k<d2 then 2 else if k=bb then 6 else if k=gj then 3 else if k=wm then 4 else if a1<=k/\k<a2 then 5 else if k=x then 0 else 9
def ajh {n f:Int} {B:Nat} {d:Nat} {us:List Int} (h:Lr.zi n f B W d v us):Lr.zi n f 0 W d v us:=⟨h.blk,iL h.row (ni _),ni _,h.wds,h.few⟩
def aji (h0:0<=c.nodes):kH c [] (2^c.nodes.toNat - 1):=fun k=>by
 grind[lM]
def am8:kY [] []:=⟨List.Pairwise.nil,fun e=>⟨fun h=>(by grind),fun⟨n,j,h,_⟩=>(by grind)⟩⟩
def ar2 {V:ay} {x t d gj wm a m bb t1 t2 d1 d2 a1 a2:Nat} (hT:Tree (fun j=>t1<=j/\j<t2) V t (la.map aB) (gP (la.map aB))) (hL:Lr.zi c.nodes (Ev c) 0 V d v (nX la)) (hLk:∀k,Lr.LK d v k->d1<=k/\k<d2) (hJ:JW V gj []) (hW:jq V wm []) (hA:A3.r_ 198 239 V a m none []) (hAk:∀k,A3.xE a m none k->a1<=k/\k<a2) (hN:N2.fH V bb c.nodes.toNat (2^c.nodes.toNat - 1)) (hx:V.heap[x]?=some (.cells (coreC c 0 t d (some ⟨gj,0,none⟩) 0 0 (-1) wm a bb) 100 (0,0))) (WV:V8.Tab V) (hrt:Tab V) (h0:0<=c.nodes)
  (h5:5<=t1) (o1:t2<=d1) (o2:d2<=bb) (o3:bb<gj) (o4:bb<wm) (o5:bb<a1) (o6:bb<x) (n1:gj≠wm) (n2:¬(a1<=gj/\gj<a2)) (n3:¬(a1<=wm/\wm<a2)) (n4:x≠gj) (n5:x≠wm) (n6:¬(a1<=x/\x<a2)) (o0:t1<=t2) (oo:d1<=d2) (hz2:a2<=V.heap.size):
  Cr (I9 t1 t2 d1 d2 bb gj wm a1 a2 x) V x ⟨c,0,la,[], -1⟩/\∀k,k<t1->I9 t1 t2 d1 d2 bb gj wm a1 a2 x k=9:=by
 have hxl:=(aS.1 hx).1;have hjl:=(aS.1 (show V.heap[gj]?=_ from hJ)).1;have hwl:=hW.lt;have hbl:=hN.lt;refine⟨⟨⟨t,d,some ⟨gj,0,none⟩,0,[],wm,a,bb⟩,[],2^c.nodes.toNat - 1,⟨hx,?_,hT.mono (fun k _ hk=>?_),⟨v,hL,fun k hk=>?_⟩,⟨⟨rfl,.inr ⟨gj,0,_,rfl,ni _,hJ,aC _,ni _,rfl,rfl⟩⟩,fun g hg=>?_⟩,fun p hp=>(by grind),hW,?_,⟨m,none,hA,fun k hk=>?_⟩,hN,?_,fun k hk=>?_,WV,hrt,fun k hk=>?_⟩,rfl,am8,aji h0⟩,fun k hk=>?_⟩
 ·grind[I9]
 ·grind[I9]
 ·grind[I9]
 ·grind[Value.ownBlock,I9]
 ·grind[I9]
 ·grind[I9]
 ·grind[I9]
 ·grind[I9]
 ·grind[I9]
 grind[I9]
def ar3 {G Q:Nat->Nat->Nat->World->Prop} {C:Prop} (main:Hid (∀a b c d,G a b c d->Q a b c d)->C) (fin:∀a b c d,G a b c d->Q a b c d):C:=main fin
structure NwA (w4:ay) (gj wm m:Nat) (V:ay):Prop where
 dQ:Z w4 V
 jw:JW V gj []
 mp:jq V wm []
 ag:A3.r_ 198 239 V (m+1) m none []
 lo:w4.heap.size<=gj/\w4.heap.size<=wm/\w4.heap.size<=m
 up:gj<V.heap.size/\wm<V.heap.size/\m+2<=V.heap.size
 ne:gj≠wm/\¬(m<=gj/\gj<m+2)/\¬(m<=wm/\wm<m+2)
def aa0 (V:ay):Calls prog 28 #[.slice none 0 0] V fun e V'=>e=.returned (.slice (some ⟨V.heap.size,0,none⟩) 0 0)/\JW V' V.heap.size []/\V.heap.size<V'.heap.size/\Z V V':=by
 refine(MB (S:=fun _=>True) (T:=fun _=>True) (ps:= []) ⟨l8 _ _ _ _,fun _ _=>trivial⟩ (fun p hp=>by cases hp) (ni _)).mono ?_;rintro e V' ⟨rfl,qs,h⟩;obtain rfl:qs= []:=DV.1 h.len;exact⟨rfl,h.jw,(aS.1 (show V'.heap[V.heap.size]?=_ from h.jw)).1,h.dQ⟩
def Wn {V V':ay} {a m:Nat} (h:A3.r_ 198 239 V a m none []) (b:Z V V'):A3.r_ 198 239 V' a m none []:=A3.r_.kept (K:=fun _=>False) h (aH.of_below b _) (fun _ _ h=>h)
def sV (W:ay) (b:Nat) (c:Cf) (ao:Option Addr) (n ca:Nat):Prop:=W.heap[b]?=some (.cells (uL c 0 (.slice ao n ca) (.slice none 0 0) (-1)) 32 (0,0))
theorem sV.below {W W':ay} {b:Nat} {n ca:Nat} (h:sV W b c ao n ca) (k:Z W W'):sV W' b c ao n ca:=(k.block b (aS.1 (show W.heap[b]?=_ from h)).1).trans (show W.heap[b]?=_ from h)
theorem sV.cell {b:Nat} {n ca:Nat} (h:sV W b c ao n ca) (hv:(uL c 0 (.slice ao n ca) (.slice none 0 0) (-1))[k]?=some v):W.cell? ⟨b,k,none⟩=some v:=aj (show W.heap[b]?=_ from h) hv
def RS (hA:kD w ao la) (hld:dw la=0) (hck:gq c=0) (hs:∀a∈la,a.nm.size<=maxLen) (yP:Lr.Lg.Kj (nX la)) (hl:la.length<=64) (hc:la.length<=ca) (WV:V8.Tab w) (hrt:Tab w) (hnt:N2.Tab w) (hn1:1<=c.nodes) (hn2:c.nodes<=256):
  Calls prog 42 #[.agg (uL c 0 (.slice ao la.length ca) (.slice none 0 0) (-1))] w fun e w'=>∃x:Nat,e=.returned (.pointer (some ⟨x,0,none⟩))/\∃lab,Cr lab w' x ⟨c,0,la,[], -1⟩/\(∀k,k<w.heap.size->lab k=9)/\Z w w':=by
 have⟨W,hW⟩:=aZ (w.alloc (.cells #[J c.nodes,J c.queue,J c.limit,J c.age,J c.fair,J c.size,J c.period,J c.half,J 0,.slice ao la.length ca,.slice none 0 0,J (-1)] 32));have bW:Z w W:=by rw[← hW];exact dY
 have oz:W.heap.size=w.heap.size+1:=by rw[← hW];simp
 have hG:sV W w.heap.size c ao la.length ca:=by rw[← hW];exact aK w _
 have q9:W.cell? ⟨w.heap.size,9,none⟩=some (.slice ao la.length ca):=hG.cell rfl;have awp:=Ov (w:=W) (c:=ca) (hA.below bW) hs ak hc;have hg5:=Gu hnt;have HTB:Hid (∀ {V:ay},Z w V->V8.Tab V/\Tab V/\N2.Tab V):=fun {V} b=>⟨sF WV (b.block _ ak),sG hrt (b.block _ ak),Jz hnt (b.block _ ak)⟩;have HUS:Hid (∀ {V:ay},Z w V->_):=fun {V} b=>RQ (w:=V) (ca:=ca) (hA.below b) hl;have Sr:=Dr la;have HLN:Hid (∀(V:ay) (g:Nat),Z w V->bZ V g la.length (usF la)->Calls prog 78 #[.agg #[J c.nodes,J c.queue,J c.limit,J c.age,J c.fair,J c.size,J c.period,J c.half],.slice (some ⟨g,0,none⟩) la.length la.length] V fun e w'=>∃d v,e=.returned (.tuple #[.pointer (some ⟨d,0,none⟩),J 0])/\Lr.zi c.nodes (Ev c) V.heap.size w' d v (nX la)/\Z V w'):=fun V g b hR=>by
  have hq:=Lr.alR (w:=V) (ao:=some ⟨g,0,none⟩) (cp:=la.length) hck (l:=nX la) (HTB.out b).2.1 ⟨g,0,fun _=>rfl,fun k n hk=>by
   have hk':=(bO.1 hk).1
   rw[Sr]at hk'
   rw[rJ,hR.cell hk']
   unfold nX at hk
   rw[jI]at hk
   unfold usF
   cases ha:la[k]? with
   | none=>rw[ha]at hk;cases hk
   | some a=>rw[ha]at hk;cases hk;rfl⟩ yP (fun e=>by cases e) (by rw[Sr];exact hl)
  rw[Sr]at hq;exact hq
 have hnn:((c.nodes.toNat:Nat):Int)=c.nodes:=ak;have HNN:Hid (∀ {V:ay},Z w V->Calls prog 80 #[J c.nodes] V fun e w'=>e=.returned (.tuple #[.pointer (some ⟨V.heap.size,0,none⟩),J 0])/\N2.fH w' V.heap.size c.nodes.toNat (2^c.nodes.toNat - 1)/\Z V w'):=fun {V} b=>by have hq:=N2.al0 c.nodes.toNat V ak ak (HTB.out b).2.2;rw[hnn]at hq;exact hq
 have HB:Hid _:=bW;have HG:Hid _:=hG;have HZW:Hid _:=oz;clear hA hs yP hc WV hrt hnt hck bW hG oz Sr hnn;unfold uL;go_enter func42,ntmps42;go_upto_region 2 with(go_at_call 77;refine awp.mono ?_;rintro e w1 hLP;obtain⟨hyes,_,b1⟩:=hLP;obtain⟨t,rfl,hT⟩:=hyes hld)
 have HT1:Hid (Tree (fun j=>W.heap.size<=j/\j<w1.heap.size) w1 t (la.map aB) (gP (la.map aB))):=hT.mono (fun j hj h=>⟨h,hj⟩);have HB1:Hid _:=(HB.out.trans (b1.mono HB.out.size)).trans ((aA w1).mono (bM HB.out.size b1.size));have F7:Hid (sV w1.drew w.heap.size c ao la.length ca):=sV.below (sV.below HG.out b1) (aA w1);have hz1:=b1.size;clear hT b1 awp q9 hyes;refine aG (S:=(Below w1.drew.heap.size w1.drew)) (L:=99) aF ?_;have bG:(Below w1.drew.heap.size w1.drew) (w1.drew):=aI _ _;have HF:Hid (∀xx:ay,(Below w1.drew.heap.size w1.drew) xx->xx.cell? ⟨w.heap.size,0,none⟩=some (J c.nodes)/\xx.cell? ⟨w.heap.size,1,none⟩=some (J c.queue)/\xx.cell? ⟨w.heap.size,2,none⟩=some (J c.limit)/\xx.cell? ⟨w.heap.size,3,none⟩=some (J c.age)/\xx.cell? ⟨w.heap.size,4,none⟩=some (J c.fair)/\xx.cell? ⟨w.heap.size,5,none⟩=some (J c.size)/\xx.cell? ⟨w.heap.size,6,none⟩=some (J c.period)/\xx.cell? ⟨w.heap.size,7,none⟩=some (J c.half)/\xx.cell? ⟨w.heap.size,9,none⟩=some (.slice ao la.length ca)/\True):=fun xx bJ=>by have hbx:=sV.below F7.out bJ;exact⟨sV.cell hbx rfl,sV.cell hbx rfl,sV.cell hbx rfl,sV.cell hbx rfl,sV.cell hbx rfl,sV.cell hbx rfl,sV.cell hbx rfl,sV.cell hbx rfl,sV.cell hbx rfl,trivial⟩
 refine tk 0 ?_;refine tk 1 ?_;refine tk 2 ?_;refine tk 3 ?_;refine last_one (i:=4) aF rfl ?_;intro K hK;go_simp;go_at_call 79;refine(HUS.out HB1.out).mono ?_;rintro e w2 ⟨rfl,hR2,b2⟩;have HB2:Hid _:=HB1.out.trans (b2.mono HB1.out.size);have hz2:=b2.size;have ku:=b2;go_simp;refine jE hK ku ?_;clear hK K bG;refine last_one (i:=5) aF rfl ?_;intro K hK;go_simp;go_at_call 78;refine(HLN.out _ _ HB2.out hR2).mono ?_;rintro e w3 ⟨d,v3,rfl,hL3,b3⟩;have jG:=kR ku (jm b3 (gN ku));go_simp;refine jE hK jG ?_;clear hK K ku;refine tk 6 ?_;refine tk 7 ?_;refine tk 8 ?_;refine tk 9 ?_;refine tk 10 ?_;refine aO aF ?_ _;have HB3:Hid _:=HB1.out.trans (jm jG HB1.out.size);have Sw:Hid (sV w3 w.heap.size c ao la.length ca):=sV.below F7.out jG;have HL3:Hid _:=hL3;have HT3:Hid _:=Tree.below (Tree.below HT1.out (aA w1)) jG;have hz3:=b3.size;have q0:w3.cell? ⟨w.heap.size,0,none⟩=some (J c.nodes):=sV.cell Sw.out rfl;have hnw:=HNN.out HB3.out;clear jG hR2 b2 b3 hL3;go_upto_region 4 with(go_at_call 80;refine hnw.mono ?_;rintro e w4 ⟨rfl,hN4,b4⟩)
 have b4':=b4.trans ((aA w4).mono b4.size);have Bw:Hid _:=HB3.out.trans (b4'.mono HB3.out.size);have HG4:Hid (sV w4.drew w.heap.size c ao la.length ca):=sV.below Sw.out b4';have HN4:Hid (N2.fH w4.drew w3.heap.size c.nodes.toNat (2^c.nodes.toNat - 1)):=uw hN4 rfl rfl;have HL4:Hid (Lr.zi c.nodes (Ev c) 0 w4.drew d v3 (nX la)/\∀k,Lr.LK d v3 k->w2.heap.size<=k/\k<w3.heap.size):=by
  have h1:=HL3.out;refine⟨ajh ⟨(b4'.block d (h1.Ce d (.inl rfl))).trans h1.blk,row_of h1.row (fun j hj=>b4'.block j (h1.Ce j (.inr hj))),h1.lo,h1.wds,h1.few⟩,fun k hk=>⟨?_,h1.Ce k hk⟩⟩;rcases hk with e | e
  ·rw[e];exact h1.lo
  ·exact (h1.row.lt k e).1
 have HT4:Hid _:=Tree.below HT3.out b4';have hz4:w3.heap.size<w4.drew.heap.size:=hN4.lt;clear hN4 b4 b4' q0 hnw HL3 HT3 HT1;apply ar3 (G:=fun gj wm m V=>NwA w4.drew gj wm m V)
 case main=>
  intro akk;refine aG (S:=Below w4.drew.heap.size w4.drew) (L:=99) aF ?_;have oQ:Below w4.drew.heap.size w4.drew w4.drew:=aI _ _;have HF:Hid (∀xx:ay,Below w4.drew.heap.size w4.drew xx->xx.cell? ⟨w.heap.size,0,none⟩=some (J c.nodes)/\xx.cell? ⟨w.heap.size,1,none⟩=some (J c.queue)/\xx.cell? ⟨w.heap.size,2,none⟩=some (J c.limit)/\xx.cell? ⟨w.heap.size,3,none⟩=some (J c.age)/\xx.cell? ⟨w.heap.size,4,none⟩=some (J c.fair)/\xx.cell? ⟨w.heap.size,5,none⟩=some (J c.size)/\xx.cell? ⟨w.heap.size,6,none⟩=some (J c.period)/\xx.cell? ⟨w.heap.size,7,none⟩=some (J c.half)/\xx.cell? ⟨w.heap.size,8,none⟩=some (J 0)/\xx.cell? ⟨w.heap.size,10,none⟩=some (.slice none 0 0)/\xx.cell? ⟨w.heap.size,11,none⟩=some (J (-1))/\True):=fun xx bJ=>by have hbx:=sV.below HG4.out bJ;exact⟨sV.cell hbx rfl,sV.cell hbx rfl,sV.cell hbx rfl,sV.cell hbx rfl,sV.cell hbx rfl,sV.cell hbx rfl,sV.cell hbx rfl,sV.cell hbx rfl,sV.cell hbx rfl,sV.cell hbx rfl,sV.cell hbx rfl,trivial⟩
  refine tk 0 ?_;refine tk 1 ?_;refine tk 2 ?_;refine tk 3 ?_;refine tk 4 ?_;refine tk 5 ?_;refine tk 6 ?_;refine tk 7 ?_;refine tk 9 ?_;refine tk 10 ?_;refine tk 13 ?_;clear HF;refine zo (i:=8) (l:= [11]) aF (vJ.2 ⟨⟨_,rfl,?a8⟩,vJ.2 ⟨⟨_,rfl,?a11⟩,J2 _⟩⟩)
  case a8=>
   intro K hK;go_simp;go_at_call 28;refine(aa0 _).mono ?_;rintro e w5 ⟨rfl,hj,hl,b5⟩;have HS5:Below w4.drew.heap.size w4.drew w5:=oQ.trans (b5.mono oQ.size);have⟨gj,hgj⟩:=aZ w4.heap.size;have HJ:Hid (JW w5 gj []/\w4.heap.size=gj/\gj<w5.heap.size):=⟨hgj▸hj,hgj,hgj▸hl⟩;clear hj hl b5;go_simp;refine jE hK HS5 ?_;clear hK K;refine zo (i:=11) (l:= [12]) aF (vJ.2 ⟨⟨_,rfl,?b11⟩,vJ.2 ⟨⟨_,rfl,?b12⟩,J2 _⟩⟩)
   case b11=>
    intro K hK;have hmm:= @run_makeMap prog;go_simp;clear hmm;have⟨wm,hwm⟩:=aZ w5.heap.size;have⟨w6,uH⟩:=aZ (w5.alloc (.map #[] 0));have b6:Z w5 w6:=(by rw[← uH];exact dY);try rw[uH]
    try rw[hwm]
    have HS6:Below w4.drew.heap.size w4.drew w6:=HS5.trans (b6.mono HS5.size);have HM:Hid (jq w6 wm []/\w5.heap.size=wm/\w6.heap.size=wm+1):=⟨by rw[← uH,<-hwm];exact F9 w5,hwm,by rw[← uH,<-hwm];exact iI _ _⟩;replace HJ:Hid (JW w6 gj []/\_):=⟨JW.below HJ.out.1 b6,HJ.out.2⟩;clear uH b6;refine jE hK HS6 ?_;clear hK K;refine last_one (i:=12) aF rfl ?_;intro K hK;go_simp;go_at_call 81;refine(A3.ahI _).mono ?_;rintro e w7 ⟨rfl,hA7,b7⟩;have WW:Below w4.drew.heap.size w4.drew w7:=HS6.trans (b7.mono HS6.size);have⟨m,hm⟩:=aZ w6.heap.size;have HAG:Hid (A3.r_ 198 239 w7 (m+1) m none []/\w6.heap.size=m/\m+2<=w7.heap.size):=⟨hm▸hA7,hm,hm▸A3.r_.lt hA7 _ (.inl rfl)⟩;exact atB
   case b12=>
    intro K hK;go_simp;go_at_call 81;refine(A3.ahI _).mono ?_;rintro e w7 ⟨rfl,hA7,b7⟩;have WW:Below w4.drew.heap.size w4.drew w7:=HS5.trans (b7.mono HS5.size);have⟨m,hm⟩:=aZ w5.heap.size;have HAG:Hid (A3.r_ 198 239 w7 (m+1) m none []/\w5.heap.size=m/\m+2<=w7.heap.size):=⟨hm▸hA7,hm,hm▸A3.r_.lt hA7 _ (.inl rfl)⟩;replace HJ:Hid (JW w7 gj []/\_):=⟨JW.below HJ.out.1 b7,HJ.out.2⟩;clear hA7 b7;go_simp;refine jE hK WW ?_;clear hK K;refine last_one (i:=11) aF rfl ?_;intro K hK;have hmm:= @run_makeMap prog;go_simp;clear hmm;have⟨wm,hwm⟩:=aZ w7.heap.size;have⟨w6,uH⟩:=aZ (w7.alloc (.map #[] 0));have b6:Z w7 w6:=(by rw[← uH];exact dY);try rw[uH]
    try rw[hwm]
    have HS6:Below w4.drew.heap.size w4.drew w6:=WW.trans (b6.mono WW.size);have HM:Hid (jq w6 wm []/\w7.heap.size=wm/\w6.heap.size=wm+1):=⟨by rw[← uH,<-hwm];exact F9 w7,hwm,by rw[← uH,<-hwm];exact iI _ _⟩;replace HJ:Hid (JW w6 gj []/\_):=⟨JW.below HJ.out.1 b6,HJ.out.2⟩;replace HAG:Hid (A3.r_ 198 239 w6 (m+1) m none []/\_):=⟨Wn HAG.out.1 b6,HAG.out.2⟩;clear uH b6;refine jE hK HS6 ?_;clear hK K;have s1:=HJ.out.2;have s2:=HM.out.2;have s3:=HAG.out.2;have s4:=HS6.size;have zd:w4.drew.heap.size=w4.heap.size:=rfl;exact akk.out gj wm m w6 ⟨HS6,HJ.out.1,HM.out.1,HAG.out.1,by omega,by omega,by omega⟩
  case a11=>
   intro K hK;have hmm:= @run_makeMap prog;go_simp;clear hmm;have⟨wm,hwm⟩:=aZ w4.heap.size;have⟨w6,uH⟩:=aZ ((w4.alloc (.map #[] 0)).drew);have b6:Below w4.drew.heap.size w4.drew w6:=(by rw[← uH];exact(show Below w4.heap.size w4.drew (w4.drew.alloc _)from(aI w4.heap.size w4.drew).alloc (show w4.heap.size<=w4.drew.heap.size from aC _) _));try rw[uH]
   try rw[hwm]
   have HS6:Below w4.drew.heap.size w4.drew w6:=oQ.trans (b6.mono oQ.size);have HM:Hid (jq w6 wm []/\w4.heap.size=wm/\w6.heap.size=wm+1):=⟨by rw[← uH,<-hwm];exact F9 w4.drew,hwm,by rw[← uH,<-hwm];exact iI _ _⟩;clear uH b6;refine jE hK HS6 ?_;clear hK K;refine last_one (i:=8) aF rfl ?_;intro K hK;go_simp;go_at_call 28;refine(aa0 _).mono ?_;rintro e w5 ⟨rfl,hj,hl,b5⟩;have HS5:Below w4.drew.heap.size w4.drew w5:=HS6.trans (b5.mono HS6.size);have⟨gj,hgj⟩:=aZ w6.heap.size;have HJ:Hid (JW w5 gj []/\w6.heap.size=gj/\gj<w5.heap.size):=⟨hgj▸hj,hgj,hgj▸hl⟩;replace HM:Hid (jq w5 wm []/\_):=⟨jq.same HM.out.1 (b5.block _ (jq.lt HM.out.1)),HM.out.2⟩;clear hj hl b5;go_simp;refine jE hK HS5 ?_;clear hK K;refine last_one (i:=12) aF rfl ?_;intro K hK;go_simp;go_at_call 81;refine(A3.ahI _).mono ?_;rintro e w7 ⟨rfl,hA7,b7⟩;have WW:Below w4.drew.heap.size w4.drew w7:=HS5.trans (b7.mono HS5.size);have⟨m,hm⟩:=aZ w5.heap.size;have HAG:Hid (A3.r_ 198 239 w7 (m+1) m none []/\w5.heap.size=m/\m+2<=w7.heap.size):=⟨hm▸hA7,hm,hm▸A3.r_.lt hA7 _ (.inl rfl)⟩;exact atB
 case fin=>
  intro gj wm m w7 hG;have WW:Below w4.drew.heap.size w4.drew w7:=hG.dQ;have jW:Hid _:=hG;clear hG;have HF:Hid (∀xx:ay,Below w4.drew.heap.size w4.drew xx->xx.cell? ⟨w.heap.size,0,none⟩=some (J c.nodes)/\xx.cell? ⟨w.heap.size,1,none⟩=some (J c.queue)/\xx.cell? ⟨w.heap.size,2,none⟩=some (J c.limit)/\xx.cell? ⟨w.heap.size,3,none⟩=some (J c.age)/\xx.cell? ⟨w.heap.size,4,none⟩=some (J c.fair)/\xx.cell? ⟨w.heap.size,5,none⟩=some (J c.size)/\xx.cell? ⟨w.heap.size,6,none⟩=some (J c.period)/\xx.cell? ⟨w.heap.size,7,none⟩=some (J c.half)/\xx.cell? ⟨w.heap.size,8,none⟩=some (J 0)/\xx.cell? ⟨w.heap.size,10,none⟩=some (.slice none 0 0)/\xx.cell? ⟨w.heap.size,11,none⟩=some (J (-1))/\True):=fun xx bJ=>by have hbx:=sV.below HG4.out bJ;exact⟨sV.cell hbx rfl,sV.cell hbx rfl,sV.cell hbx rfl,sV.cell hbx rfl,sV.cell hbx rfl,sV.cell hbx rfl,sV.cell hbx rfl,sV.cell hbx rfl,sV.cell hbx rfl,sV.cell hbx rfl,sV.cell hbx rfl,trivial⟩
  refine tk 14 ?_;refine last_one (i:=15) aF rfl ?_;intro K hK;go_simp;have⟨x,hx⟩:=aZ w7.heap.size;have⟨V,hV⟩:=aZ (w7.alloc (.cells (coreC c 0 t d (some ⟨gj,0,none⟩) 0 0 (-1) wm (m+1) w3.heap.size) 100));have b8:Z w7 V:=by rw[← hV];exact dY
  have O8:V.heap.size=x+1:=by rw[← hV,<-hx];exact iI _ _
  have HBK:Hid (V.heap[x]?=some (.cells (coreC c 0 t d (some ⟨gj,0,none⟩) 0 0 (-1) wm (m+1) w3.heap.size) 100 (0,0))):=by rw[← hV,<-hx];exact aK w7 _
  unfold coreC at hV;try rw[hV]
  try rw[hx]
  have WU:Below w4.drew.heap.size w4.drew V:=WW.trans (b8.mono WW.size);have HB8:Hid _:=b8;have HX:Hid _:=hx;have HZV:Hid _:=O8;clear hV b8 hx O8;refine jE hK WU ?_;clear hK K WW;refine tk 16 ?_;refine aO aF ?_ _;have HBV:Hid _:=WU;clear WU;have aHd:V.cell? ⟨x,11,none⟩=some (.slice (some ⟨gj,0,none⟩) 0 0):=aj HBK.out rfl;go_wp2;go_loopg [10,11,55] 0 (fun gk u u2 p wr=>p=J 0/\V=wr)
  case atStart=>exact⟨rfl,rfl⟩
  case round=>
   obtain⟨rfl,rfl⟩:=hrel;go_wp2;go_ret;have⟨l1,l2,l3⟩:=jW.out.lo;have⟨u1,u2,u3⟩:=jW.out.up;have⟨n1,n2,n3⟩:=jW.out.ne;have zx:=HX.out;have zV:=HZV.out;have hbV:=HBV.out;have BV:=Bw.out.trans (hbV.mono Bw.out.size);have zW:=HZW.out;have hzd:w1.drew.heap.size=w1.heap.size:=rfl;have hLd:Lr.zi c.nodes (Ev c) 0 V d v3 (nX la):=(by have h1:=HL4.out.1;exact⟨(hbV.block d (h1.Ce d (.inl rfl))).trans h1.blk,row_of h1.row (fun j hj=>hbV.block j (h1.Ce j (.inr hj))),h1.lo,h1.wds,h1.few⟩);have hNV:=uw HN4.out (hbV.block _ hz4) (hbV.block _ ak);have hcr:=ar2 (bb:=w3.heap.size) (t1:=W.heap.size) (t2:=w1.heap.size) (d1:=w2.heap.size) (d2:=w3.heap.size) (a1:=m) (a2:=m+2) (Tree.below HT4.out hbV) hLd HL4.out.2 (JW.below jW.out.jw HB8.out) (jq.same jW.out.mp (HB8.out.block _ (jq.lt jW.out.mp))) (Wn jW.out.ag HB8.out) (fun k hk=>by
    rcases hk with e | e | ⟨g,e,_⟩
    ·omega
    ·omega
    ·cases e) hNV HBK.out (HTB.out BV).1 (HTB.out BV).2.1 ak ak ak (aC _) ak ak ak ak n1 n2 n3 ak ak ak hz1 hz3 ak
   exact⟨x,rfl,_,hcr.1,fun k hk=>hcr.2 k ak,BV⟩
def newS (c:Cf):Sv:=⟨c,0,[eH],[], -1⟩
def Pn:dw [eH]=0:=aT
def Fa (h:gq c=0):Kept (newS c):=by
 have r:=xV h;refine⟨h,⟨kL _,(by grind[newS]),Pn,(by show 0<=4096;omega),rfl,?_,rfl,?_,rfl⟩,fun n a ha=>?_⟩
 ·have:=r.q0;grind[gU,newS]
 ·rfl
 ·have hn:=(bO.1 ha).1;have e:n=0:=by grind[newS]
  subst e;simp[newS]at ha;grind[Word,eH]
def aau (h:gq c≠0):Calls prog 24 #[gY c] w fun e w'=>e=.returned (.tuple #[.pointer none,J (gq c)])/\Z w w':=by
 have⟨W,hW,bW,hG,hzE⟩:=sJ w #[J c.nodes,J c.queue,J c.limit,J c.age,J c.fair,J c.size,J c.period,J c.half] 23;have hq:=mU hG;simp only[Cs,Nat.reduceAdd]at hq;obtain⟨q0,q1,q2,q3,q4,q5,q6,q7, -⟩:=hq;have hck:=jA c W;generalize gq c=E at h hck ⊢;have nb:(E != 0)=true:=by simpa using h
 unfold gY at *;have HB:Hid _:=bW;clear h bW hG;go_enter func24,ntmps24;go_wp2_with (go_at_call 41;refine hck.mono ?_;rintro e w1 ⟨rfl,b1⟩)
 go_ret2
 exact⟨rfl,HB.out.trans (b1.mono HB.out.size)⟩
def Wo (h:gq c=0) (WV:V8.Tab w) (hrt:Tab w) (hnt:N2.Tab w):Calls prog 24 #[gY c] w fun e w'=>∃x:Nat,e=.returned (.tuple #[.pointer (some ⟨x,0,none⟩),J 0])/\∃lab,Cr lab w' x (newS c)/\(∀k,k<w.heap.size->lab k=9)/\Z w w':=by
 have⟨W,hW,bW,hG,hzE⟩:=sJ w #[J c.nodes,J c.queue,J c.limit,J c.age,J c.fair,J c.size,J c.period,J c.half] 23;have hq:=mU hG;simp only[Cs,Nat.reduceAdd]at hq;obtain⟨q0,q1,q2,q3,q4,q5,q6,q7, -⟩:=hq;have hck:=jA c W;rw[h]at hck;have r:=xV h;have hg5:=Gu hnt;have HST:Hid (∀ {V:ay} {B:Nat} {u:Value},Z w V->V.ownsRow B 58 5 u [eH].length (dP [eH])->∃ua uc,u=.slice ua 1 uc/\Calls prog 42 #[.agg (uL c 0 (.slice ua 1 uc) (.slice none 0 0) (-1))] V fun e w'=>∃x:Nat,e=.returned (.pointer (some ⟨x,0,none⟩))/\∃lab,Cr lab w' x (newS c)/\(∀k,k<V.heap.size->lab k=9)/\Z V w'):=fun {V B u} b hr=>by
  obtain⟨ua,uc,rfl,hA,_⟩:=AZ hr;have hca: [eH].length<=uc:=by exact ae5
  refine⟨ua,uc,rfl,?_⟩;exact RS (la:= [eH]) hA Pn h (fun a ha=>by simp at ha;subst ha;exact(by decide:eH.nm.size<=maxLen)) (fun u hu=>by simp[nX]at hu;subst hu;exact⟨kL _,by decide⟩) aT hca (sF WV (b.block _ ak)) (sG hrt (b.block _ ak)) (Jz hnt (b.block _ ak)) r.n0 r.n1
 unfold gY at *;have HB:Hid _:=bW;have HG:Hid _:=hG;clear h bW hG WV hrt hnt r;go_enter func24,ntmps24;go_upto_region 4 with(go_at_call 41;refine hck.mono ?_;rintro e w1 ⟨rfl,b1⟩)
 have HB1:Hid _:=(HB.out.trans (b1.mono HB.out.size)).trans ((aA w1).mono (bM HB.out.size b1.size));have oz:w.heap.size<W.heap.size:=by rw[← hW];simp
 have F7:Hid (w1.drew.heap[w.heap.size]?=some (.cells #[J c.nodes,J c.queue,J c.limit,J c.age,J c.fair,J c.size,J c.period,J c.half] 23 (0,0))):=(b1.block _ oz).trans HG.out;have hz1:w.heap.size<w1.drew.heap.size:=gL oz b1.size;clear b1 hck q0 q1 q2 q3 q4 q5 q6 q7;refine aG (S:=(Below w1.drew.heap.size w1.drew)) (L:=99) aF ?_;have bG:(Below w1.drew.heap.size w1.drew) (w1.drew):=aI _ _;have HF:Hid (∀xx:ay,(Below w1.drew.heap.size w1.drew) xx->xx.cell? ⟨w.heap.size,0,none⟩=some (J c.nodes)/\xx.cell? ⟨w.heap.size,1,none⟩=some (J c.queue)/\xx.cell? ⟨w.heap.size,2,none⟩=some (J c.limit)/\xx.cell? ⟨w.heap.size,3,none⟩=some (J c.age)/\xx.cell? ⟨w.heap.size,4,none⟩=some (J c.fair)/\xx.cell? ⟨w.heap.size,5,none⟩=some (J c.size)/\xx.cell? ⟨w.heap.size,6,none⟩=some (J c.period)/\xx.cell? ⟨w.heap.size,7,none⟩=some (J c.half)/\True):=fun xx bJ=>⟨aj ((lI bJ _ hz1).trans F7.out) rfl,aj ((lI bJ _ hz1).trans F7.out) rfl,aj ((lI bJ _ hz1).trans F7.out) rfl,aj ((lI bJ _ hz1).trans F7.out) rfl,aj ((lI bJ _ hz1).trans F7.out) rfl,aj ((lI bJ _ hz1).trans F7.out) rfl,aj ((lI bJ _ hz1).trans F7.out) rfl,aj ((lI bJ _ hz1).trans F7.out) rfl,trivial⟩;refine tk 0 ?_;refine last_one (i:=1) aF rfl ?_;intro K hK;go_simp;go_at_call 43;refine(at0 _).mono ?_;rintro e w2 ⟨t2,rfl,hT2,b2⟩;have ku:=b2;go_simp;refine jE hK ku ?_;clear hK K bG;refine last_one (i:=2) aF rfl ?_;intro K hK;go_simp;go_at_call 44;refine(apd hT2 aqC).mono ?_;rintro e w3 ⟨u3,rfl,hr3,b3⟩;obtain⟨ua,uc,rfl,hst⟩:=HST.out (HB1.out.trans (jm (kR ku (jm b3 (gN ku))) HB1.out.size)) hr3;unfold uL at hst;have jG:=kR ku (jm b3 (gN ku));go_simp;refine jE hK jG ?_;clear hK K ku;refine tk 3 ?_;refine last_one (i:=4) aF rfl ?_;intro K hK;go_simp;go_at_call 42;refine(hst).mono ?_;rintro e w5 ⟨x,rfl,lab,hcr,hlab,b5⟩;have nR:=kR jG (jm b5 (gN jG));go_simp;refine jE hK nR ?_;clear hK K;refine tk 5 ?_;refine tk 6 ?_;refine aO aF ?_ _;have B5:=HB1.out.trans (jm nR HB1.out.size);have Uz:=gN jG;have HCR:Hid _:=hcr;clear nR hcr;go_wp2;go_ret2
 exact⟨x,rfl,lab,HCR.out,fun k hk=>hlab k ak,B5⟩
end
section
open Wd Tr Cg Ld
def jN:Cf:=⟨4,8,10,1,0,0,100,100⟩
def am_:nJ jN:=by constructor<;>simp only[jN]<;>omega
def aa2:gq jN=0:=by
 unfold gq;rw[au (fun h=>h am_),au aT];decide
def nmA:ByteArray:=⟨#[97]⟩
def nm0:ByteArray:=⟨#[]⟩
def exA:Cd:=⟨5,nmA,zI,1,0,0,0,0⟩
def exJ (n l:Int):Cd:=⟨1,nmA,nm0,0,n,l,0,0⟩
def Sz (n:Int):Cd:=⟨4,nm0,nm0,0,0,0,0,n⟩
def exQ:Cd:=⟨10,nm0,nm0,0,0,0,0,0⟩
def SA:List Ac:= [eH,⟨nmA,0,1,false,0⟩]
def I_ (n l:Int):Jv:=⟨1,n,l,0,1,0,0,[]⟩
def aA8:yS (newS jN) exA=(⟨jN,0,SA,[], -1⟩,{coded 0 with id:=1}):=aF
def aA9:(yS ⟨jN,0,SA,[], -1⟩ (exJ 3 5)).1=⟨jN,0,SA,[I_ 3 5], -1⟩:=aF
def aA_:(yS ⟨jN,0,SA,[I_ 3 5], -1⟩ (exJ 3 5)).1=⟨jN,0,SA,[I_ 3 5,I_ 3 5], -1⟩:=aF
def aBa:(yS ⟨jN,0,SA,[I_ 3 5,I_ 3 5], -1⟩ (exJ 1 5)).1=⟨jN,0,SA,[I_ 3 5,I_ 3 5,I_ 1 5], -1⟩:=aF
def aBb:yS ⟨jN,0,SA,[I_ 3 5,I_ 3 5,I_ 1 5], -1⟩ (exJ 1 6)=(⟨jN,0,SA,[I_ 3 5,I_ 3 5,I_ 1 5,I_ 1 6], -1⟩,{told [⟨1,3,0,1,6,[]⟩]with id:=3}):=aF
def ad2 {F:Nat} {f:Nat->Int} {l:List Jb} {b:Int} (h:∀p∈tJ F f c now l 0,p.b=b):rT F f c now l=tJ F f c now l 0:=by
 refine Kk QK Pr.a _ _ (sQ ..) (Hw ..) ?_;grind[KW,List.Pairwise.imp_of_mem,QK,ZX]
def rW (j:Jv):Bool:=decide (j.st=1)
theorem aa3 {F:Nat} {f:Nat->Int} {c:Cf} {now:Int}:∀(js:List Jv) (k:Nat),(∀j∈js,0<=j.ac/\j.ac<(F:Int))->(tJ F f c now (js.map Lv) k).map Pr.a=(rR rW js k).map fun n:Nat=>(n:Int)
 | [],_,_=>rfl
 | j::js,k,h=>by
  have ih:= @aa3 F f c now js (k+1) (fun x hx=>h x (ny _ hx));grind[t_,Lv,rW,tJ,rR]
def ana {now nd f:Int} (h0:0<=now) (h1:now<=1099511627776) (h2:1<=nd) (h3:nd<=4):nC jN now 0 nd f=nC jN now 0 1 f:=by
 have w:Sm jN now 0 nd:=⟨kL _,h0,h1,h2,h3⟩;have w1:Sm jN now 0 1:=⟨kL _,h0,h1,kL _,by decide⟩;grind[jN,nC,BQ]
def exB (js:List Jv):Bool:=js.all fun j=>decide (j.sb=0)&&decide (j.ac=1)
def ME {now hd:Int} (v:Kept ⟨jN,now,la,js,hd⟩) (hl:la.length=2) (hj:exB js=true):(f_ ⟨jN,now,la,js,hd⟩).map Pr.a=(BR rW js).map fun n:Nat=>(n:Int):=by
 have hB:∀j∈js,j.sb=0/\j.ac=1:=by grind[exB]
 have hF:qQ jN la=2:=by unfold qQ;rw[aJ ⟨v.ok.load,v.Ve⟩,hl]
 unfold f_;show (rT (qQ jN la) (mF la (wV la (Cc jN))) jN now (js.map Lv)).map Pr.a=_;rw[ad2 (b:=nC jN now 0 1 (mF la (wV la (Cc jN)) 1))]
 ·grind[aa3,BR]
 ·intro p hp;obtain⟨i,j,h1,_,h3⟩:=Er _ _ _ hp;rw[jI]at h1
  cases hx:js[i]? with
  | none=>grind
  | some x=>
   rw[hx]at h1
   cases h1;have k:=v.ok.head hx;have b:=hB x (dW hx);rw[h3];show nC jN now x.sb x.nd (mF la (wV la (Cc jN)) x.ac.toNat)=_;rw[b.1,b.2];exact ana v.ok.n0 v.ok.n1 k.2.2.1 k.2.2.2.1
def exL (js:List Jv):List Int:=(BR rW js).map fun n:Nat=>(n:Int)
def exP (now:Int) (js:List Jv) (hd:Int):Pq.Pr.Pln:=Pq.Pr.jK now (4 - Pq.Pr.fG (bT js)) ((exL js).map (yI js)) hd (bT js)
def exK (now:Int) (js:List Jv):List Jv:=mQ now (qo now js) js
def exE (now:Int) (js:List Jv) (hd:Int):List Hg:=⟨5,0,now,0,0,exL js⟩::(tV jN now (exP now js hd).st js++if (exP now js hd).ho≠ -1/\(exP now js hd).ho≠hd then [⟨4,(exP now js hd).ho,now,0,0,[]⟩]else [])
def anb {now hd:Int} (v:Kept ⟨jN,now,la,js,hd⟩) (hl:la.length=2) (hj:exB js=true):bQ ⟨jN,now,la,js,hd⟩=exP now js hd:=by
 unfold bQ eX exP exL;rw[← ME v hl hj,Fv];rfl
def ZJ {now hd:Int} (v:Kept ⟨jN,now,la,js,hd⟩) (hl:la.length=2) (hn:now<99) (hj:exB (exK (now+1) js)=true) (hp:gU (exK (now+1) js)≠0):
  ∃la',la'.length=2/\iD ⟨jN,now,la,js,hd⟩=⟨jN,now+1,la',dA jN (now+1) (exP (now+1) (exK (now+1) js) hd).st (exK (now+1) js),(exP (now+1) (exK (now+1) js) hd).ho⟩/\
   qR ⟨jN,now,la,js,hd⟩=⟨6,0,now+1,0,0,[]⟩::((qo (now+1) js).map (fun n=>gV n 4 (now+1))++exE (now+1) (exK (now+1) js) hd):=by
 have h0:0<=now:=v.ok.n0;have v1:=Ar v (show now+1<=1099511627776 by omega);obtain⟨la',hla⟩:∃la',kE ⟨jN,now,la,js,hd⟩=⟨jN,now+1,la',exK (now+1) js,hd⟩/\la'.length=2:=⟨_,rfl,by rw[zU];omega⟩;have hm:¬(now+1) % 100=0:=ak;have hf:o_ (kE ⟨jN,now,la,js,hd⟩)=⟨jN,now+1,la',exK (now+1) js,hd⟩:=by grind[o_,jN]
 rw[hla.1]at v1;have hpl:=anb v1 hla.2 hj;have Zg:=ME v1 hla.2 hj;refine⟨la',hla.2,?_,?_⟩
 ·grind[iD,fq]
 ·unfold qR;rw[hf,hla.1];have e1:ahV ⟨jN,now+1,la',exK (now+1) js,hd⟩= []:=au hm;rw[e1,pY];unfold Im;rw[au hp,hpl,Zg];rfl
def js5:List Jv:= [I_ 3 5,I_ 3 5,I_ 1 5,I_ 1 6]
def IB:List Jv:= [⟨1,3,5,0,2,1,0,[0,1,2]⟩,I_ 3 5,⟨1,1,5,0,2,1,0,[3]⟩,I_ 1 6]
def js7:List Jv:= [⟨1,3,5,0,4,1,6,[0,1,2]⟩,⟨1,3,5,0,2,6,0,[0,1,2]⟩,⟨1,1,5,0,4,1,6,[3]⟩,⟨1,1,6,0,2,6,0,[3]⟩]
def apD:dA jN 1 (exP 1 (exK 1 js5) (-1)).st (exK 1 js5)=IB/\(exP 1 (exK 1 js5) (-1)).ho=1:=⟨by kernel_rfl,by kernel_rfl⟩
def awq:(qo 1 js5).map (fun n=>gV n 4 1)++exE 1 (exK 1 js5) (-1)= [⟨5,0,1,0,0,[0,1,2,3]⟩,⟨2,0,1,0,0,[0,1,2]⟩,⟨2,2,1,0,0,[3]⟩,⟨4,1,1,0,0,[]⟩]:=aF
def aBe (v:Kept ⟨jN,0,SA,js5, -1⟩):∃la,la.length=2/\yS ⟨jN,0,SA,js5, -1⟩ (Sz 1)=(⟨jN,1,la,IB,1⟩,told [⟨6,0,1,0,0,[]⟩,⟨5,0,1,0,0,[0,1,2,3]⟩,⟨2,0,1,0,0,[0,1,2]⟩,⟨2,2,1,0,0,[3]⟩,⟨4,1,1,0,0,[]⟩]):=by
 have⟨la,h1,h2,h3⟩:=ZJ v rfl ak aF aT;rw[show (0:Int)+1=1 from rfl]at h2 h3;rw[apD.1,apD.2]at h2;rw[awq]at h3;refine⟨la,h1,?_⟩;have e:yS ⟨jN,0,SA,js5, -1⟩ (Sz 1)=(iD ⟨jN,0,SA,js5, -1⟩,told (qR ⟨jN,0,SA,js5, -1⟩++ [])):=aF;grind
def aBf (v:Kept ⟨jN,1,la,IB,1⟩) (hl:la.length=2):∃a,yS ⟨jN,1,la,IB,1⟩ exQ=(⟨jN,1,la,IB,1⟩,a)/\a.hold=1/\a.IU=6/\a.WK.length=2:=by
 have hr:=ME v hl aF;refine⟨Gr ⟨jN,1,la,IB,1⟩,by kernel_rfl,rfl,by kernel_rfl,?_⟩;have:=aP List.length hr;rw[dL]at this;exact this
def RU (v:Kept ⟨jN,now,la,IB,1⟩) (hl:la.length=2) (hn:now=1\/now=2\/now=3\/now=4):∃la',la'.length=2/\iD ⟨jN,now,la,IB,1⟩=⟨jN,now+1,la',IB,1⟩/\(qR ⟨jN,now,la,IB,1⟩).length=2:=by
 rcases hn with rfl | rfl | rfl | rfl<;>
 ·exact aoy
def ane (v:Kept ⟨jN,5,la,IB,1⟩) (hl:la.length=2):∃la',la'.length=2/\iD ⟨jN,5,la,IB,1⟩=⟨jN,6,la',js7, -1⟩/\(qR ⟨jN,5,la,IB,1⟩).length=6:=by
 exact aoy
def aBg (v:Kept ⟨jN,1,la,IB,1⟩) (hl:la.length=2):∃la' es,es.length=14/\yS ⟨jN,1,la,IB,1⟩ (Sz 5)=(⟨jN,6,la',js7, -1⟩,told es):=by
 have e:yS ⟨jN,1,la,IB,1⟩ (Sz 5)=(iA 5 ⟨jN,1,la,IB,1⟩,told (pz 5 ⟨jN,1,la,IB,1⟩)):=aF;have⟨l1,a1,b1,c1⟩:=RU v hl (.inl rfl);have v1:=uo v (by show (1:Int)+1<=1099511627776;omega);rw[b1]at v1;have⟨l2,a2,b2,c2⟩:=RU v1 a1 (.inr (.inl rfl));have v2:=uo v1 (by show (1:Int)+1+1<=1099511627776;omega);rw[b2]at v2;have⟨l3,a3,b3,c3⟩:=RU v2 a2 (.inr (.inr (.inl rfl)));have v3:=uo v2 (by show (1:Int)+1+1+1<=1099511627776;omega);rw[b3]at v3;have⟨l4,a4,b4,c4⟩:=RU v3 a3 (.inr (.inr (.inr rfl)));have v4:=uo v3 (by show (1:Int)+1+1+1+1<=1099511627776;omega);rw[b4]at v4;have⟨l5,a5,b5,c5⟩:=ane v4 a4;have hs:iA 5 ⟨jN,1,la,IB,1⟩=⟨jN,6,l5,js7, -1⟩:=by show iD (iD (iD (iD (iD ⟨jN,1,la,IB,1⟩))))=_;grind
 refine⟨l5,pz 5 ⟨jN,1,la,IB,1⟩,?_,by grind⟩;have b5':(qR ⟨jN,1+1+1+1+1,l4,IB,1⟩).length=6:=c5;simp only[pz,tC,jh,b1,b2,b3,b4,c1,c2,c3,c4,b5']
end
end Go.Proofs.YtdhifkbbjlhcaaaGreatDoor
