import Derived.Test.YtdhifkbbjlhcaaaGreatDoorKz14
import Derived.Test.YtdhifkbbjlhcaaaGreatDoorKz17
import Derived.Test.YtdhifkbbjlhcaaaGreatDoorKz18
import Derived.Test.YtdhifkbbjlhcaaaGreatDoorKz16
set_option maxRecDepth 20000
set_option maxHeartbeats 2000000
set_option linter.defProp false
namespace Go.Proofs.YtdhifkbbjlhcaaaGreatDoor
open Go.Proofs.Tryz
variable {D:Nat->Prop} {W w:ay} {ao:Option Addr} {c g k o:Nat} {cf:Cg.Cf} {l:List Tr.Ac} {v:Nat->Value}
section
open Go.RowKit Wd Tr Go.Maps
namespace Tr
def ab9 (l:List Ac) (n:Nat) (D:Nat->Prop):Nat->Prop:=fun i=>D i\/(i<l.length/\wI l n i)
def agW {p j k:Nat} (hk:(dh l p)[j]?=some k):ab9 l k (jy l p D j)=jy l p D (j+1):=by
 grind[ab9,jy]
def alA {n:Nat} (hn:n<l.length):(fun i=>kJ l n D i\/i=n)=ab9 l n D:=by
 grind[nL,kJ,ab9]
def take_succ {α:Type} {l:List α} {j:Nat} {a:α} (h:l[j]?=some a):l.take (j+1)=l.take j++ [a]:=by
 grind[kT]
end Tr
def Eo (w:ay) (sb:Nat) (l:List Ac) (D:Nat->Prop):Prop:=∃f,bZ w sb l.length f/\∀j,j<l.length->D j->f j=g_ l j
theorem Eo.below {w w':ay} {sb:Nat} (h:Eo w sb l D) (b:Z w w'):Eo w' sb l D:=by
 obtain⟨f,h1,h2⟩:=h;exact⟨f,h1.below b,h2⟩
def Eo.set {sb:Nat} (h:Eo w sb l D) (n:Nat):Eo (w.setCell ⟨sb,n,none⟩ (O (g_ l n))) sb l (fun i=>D i\/i=n):=by
 obtain⟨f,h1,h2⟩:=h;refine⟨_,h1.set n _,fun j hj hd=>?_⟩;grind[Nf]
def agX {WF:ay} {B m g o c fa ca sa sb:Nat} (jS:Wu l) (yP:nN l) (Ux:Um WF g o l) (ru:vR WF B m l l.length v) (kf:fa≠sb) (kc:ca≠sb) (ks:sa≠sb) (kw:WF.heap.size<=sb):
  ∀(f:Nat) {n d:Nat} {D:Nat->Prop} {w:ay},Z WF w->
   (w.cell? ⟨fa,0,none⟩=some (.slice (some ⟨g,o,none⟩) l.length c)/\w.cell? ⟨fa,1,none⟩=some (.map (some m))/\w.cell? ⟨sa,0,none⟩=some (.slice (some ⟨sb,0,none⟩) l.length l.length)/\w.cell? ⟨ca,0,none⟩=some (.func (.func 290) #[] #[.pointer (some ⟨fa,0,none⟩),.pointer (some ⟨ca,0,none⟩),.pointer (some ⟨sa,0,none⟩)]))->
   Eo w sb l D->n<l.length->lX l d n->4<d+f->
   Calls prog 290 #[J (n:Int),.pointer (some ⟨fa,0,none⟩),.pointer (some ⟨ca,0,none⟩),.pointer (some ⟨sa,0,none⟩)] w fun e w'=>e=.returned (O (g_ l n))/\Eo w' sb l (ab9 l n D)/\aH (fun j=>j=sb) w w':=by
 intro f;induction f with
 | zero=>intro n d D w _ _ _ hn hd hf;have⟨e,h1,h2⟩:=jS.deep hn;have:=lC hd h2;omega
 | succ f ih=>
  intro n d D w hbel hc hrow hn hd hf;have hb0:=ru.below hbel;have hlk:=hb0.look jS.len hn;have⟨xa,xc,hv⟩:=bE (hb0.row n hn);rw[hv]at hlk;have HDE:Hid (jy l n D (om l n l.length).length=kJ l n D):=Un jS;have HPL:Hid ((om l n l.length).length=(dh l n).length):=rfl;have⟨nk,hnk⟩:=aZ ((om l n l.length).length);have auh:nk<=64:=by have:=Jl l n l.length;have:=jS.len;omega
  rw[hnk]at hlk;have⟨a,ha,hac⟩:=(Ux.below hbel).at hn;have x0:=hac.us;rw[← atQ ha]at x0;have⟨S,hS⟩:=aZ (g_ l n);have HSE:Hid (sumTo (g_ l) (CX l n) ((dh l n).take nk)=S):=by rw[← hS,Ub jS hn,<-hnk,HPL.out,oC];exact rfl
  rw[hS];have HSS:Hid _:=hS;have HNK:Hid _:=hnk;have HW:Hid (Wu l):=jS;have HU:Hid (nN l):=yP;have HV:Hid _:=hv;have HIH:Hid _:= @ih;have ap_:Hid (vR WF B m l l.length v):=ru;have ale:Hid _:=hbel;have MX:Hid (Eo w sb l D):=hrow;have HC:Hid (w.cell? ⟨fa,0,none⟩=some (.slice (some ⟨g,o,none⟩) l.length c)/\w.cell? ⟨fa,1,none⟩=some (.map (some m))/\w.cell? ⟨sa,0,none⟩=some (.slice (some ⟨sb,0,none⟩) l.length l.length)/\w.cell? ⟨ca,0,none⟩=some (.func (.func 290) #[] #[.pointer (some ⟨fa,0,none⟩),.pointer (some ⟨ca,0,none⟩),.pointer (some ⟨sa,0,none⟩)])):=hc;have HNn:Hid (n<l.length):=hn;have HDD:Hid (lX l d n):=hd;have HF:Hid _:=hf;obtain⟨c0,c1,_,_⟩:=hc;have hn':(n:Int)<l.length:=ak;clear hbel hrow ih hb0 hv hnk hac ha hS hn hd hf jS yP ru Ux;generalize oM l (↑n) l.length=tg at *;have hfl:=aue (.slice xa nk xc) (O tg);go_enter func290,ntmps290;go_wp2;clear c0 c1 hlk hfl x0;go_loopg [6,21] nk (fun gk t x wr=>∃j:Nat,j+gk=nk/\t=O (sumTo (g_ l) (CX l n) ((dh l n).take j))/\x=J j/\Eo wr sb l (jy l n D j)/\aH (fun j=>j=sb) w wr)
  case atStart=>exact⟨0,by omega,rfl,rfl,by rw[KN];exact MX.out,aH.refl _ _⟩
  case round=>
   obtain⟨j,hj,rfl,rfl,hr,hch⟩:=hrel;by_cases hlt:j<nk
   ·have hlt':(j:Int)<nk:=ak;obtain⟨k,hk⟩:∃k,(dh l n)[j]?=some k:=⟨_,aY (by rw[← HPL.out,HNK.out];exact hlt)⟩;have hkm:=dW hk;have⟨hk0,hkl,hku⟩:=HW.out.kid hkm;have B1:Z WF wr:=hch.below ale.out ale.out.size (fun i hi=>by omega);have⟨b,cc,hvv,hcell⟩:=Oy ((ap_.out.below B1).row n HNn.out) (j:=j) (k:=k) hk;rw[HV.out,HNK.out]at hvv;obtain⟨rfl,rfl⟩:xa=some ⟨b,0,none⟩/\xc=cc:=(by have:=Value.slice.inj hvv;exact⟨this.1,this.2.2⟩);have cb:=hch.cell HC.out.2.2.2 kc;have hv2:=HIH.out (n:=k) (d:=d+1) (D:=jy l n D j) (w:=wr) B1 ⟨hch.cell HC.out.1 kf,hch.cell HC.out.2.1 kf,hch.cell HC.out.2.2.1 ks,cb⟩ hr hkl (HW.out.qF hkm HDD.out) (by have:=HF.out;omega);rw[agW hk]at hv2;have hsw:Word (sumTo (g_ l) (CX l n) ((dh l n).take j)):=CY (Jm HU.out n) (fun k _=>qL HU.out k);have c2:=Uf (sumTo (g_ l) (CX l n) ((dh l n).take j)) (g_ l k) hsw (qL HU.out k);have HE:Hid (jF (sumTo (g_ l) (CX l n) ((dh l n).take j)+g_ l k)=sumTo (g_ l) (CX l n) ((dh l n).take (j+1))):=show jF _=_ by rw[take_succ hk,XK];rfl
    have HCH:Hid _:=hch;clear hr hch hk hkm hk0 hkl hku B1 hvv hsw;generalize sumTo (g_ l) (CX l n) ((dh l n).take j)=T at *;generalize g_ l k=Sk at *;have⟨NT,hNT⟩:=aZ (jF (T+Sk));rw[hNT]at c2;have HN:Hid _:=hNT;clear hNT;go_wp2_with fail
    refine hv2.mono ?_;rintro e w1 ⟨rfl,hi1,hc1⟩;have HI1:Hid _:=hi1;have KL:Hid _:=hc1;clear hv2 hi1 hc1 cb hcell;go_wp2_with fail
    refine(c2 _).mono ?_;rintro e w2 ⟨rfl,hb2⟩;have HI2:Hid (Eo w2 sb l (jy l n D (j+1))):=Eo.below HI1.out hb2;have Sq:Hid (aH (fun j=>j=sb) w w2):=(HCH.out.trans KL.out (fun _ _ h=>h)).trans (aH.of_below hb2 (fun j=>j=sb)) (fun _ _ h=>h);clear hb2 c2;go_wp2;go_roundg (nk - (j+1))
    case measure=>omega
    case rel=>exact⟨j+1,by omega,by rw[← HN.out,HE.out],rfl,HI2.out,Sq.out⟩
   ·obtain rfl:j=nk:=ak;have hr2:Eo wr sb l (kJ l n D):=(by rw[← HDE.out,HNK.out];exact hr);have c3:=hch.cell HC.out.2.2.1 ks;obtain⟨ff,hrf,_⟩:=id hr2;have z1:=hrf.cell HNn.out;have z2:=hrf.free n;have hend:=Eo.set hr2 n;rw[alA HNn.out,HSS.out]at hend;have azv:Hid _:=hend;have HCH:Hid (aH (fun j=>j=sb) w (wr.setCell ⟨sb,n,none⟩ (O S))):=show aH (fun j=>j=sb) w (wr.setCell ⟨sb,n,none⟩ (O S))from hch.setCell _ _ (.inl rfl);rw[HSE.out];clear hr hch hr2 hrf hend;go_wp2;go_ret;exact⟨rfl,azv.out,HCH.out⟩
def Tryz.azw:(prog.info? 40).map (fun i=>(i.zero,i.size,i.bytes))=some (some (O 0),1,8):=aF
def Ah (w:ay) {L:Nat} (hL:L<=64):∃w',(Instr.makeSlice 123 (J (L:Int)) (J (L:Int))).run prog w=.ok (.slice (some ⟨w.heap.size,0,none⟩) L L) w'/\bZ w' w.heap.size L (fun _=>0)/\Z w w'/\w'.heap.size=w.heap.size+1:=by
 have⟨i0,hi0,hz0,hz1,hz2⟩:=fA Tryz.azw;have hmk:=run_makeSlice (P:=prog) w 123 40 i0 _ underlying123 hi0 hz0 .i64 .i64 (L:Int) (L:Int) ak (kL _) (by rw[hz1];simp;omega) (by rw[hz2];omega) ak;simp only[gJ,hz1]at hmk;refine⟨_,hmk,⟨_,aK w _,by simp[madeCells],fun k hk=>?_⟩,dY,by simp⟩;grind[Value.cells,madeCells]
def agY {B m g o c:Nat} (jS:Wu l) (yP:nN l) (Ux:Um w g o l) (ru:vR w B m l l.length v):
  Calls prog 258 #[.agg #[.slice (some ⟨g,o,none⟩) l.length c,.map (some m)]] w fun e w'=>∃sb,e=.returned (.slice (some ⟨sb,0,none⟩) l.length l.length)/\w.heap.size<=sb/\bZ w' sb l.length (g_ l)/\Z w w':=by
 have hmf:∀(fn:Fn) (first cap:Array Value) (w:ay),(Instr.makeFunc fn first cap).run prog w=.ok (.func fn first cap) w:=fun _ _ _ _=>rfl;have hl:=jS.len;have⟨L,hL⟩:=aZ l.length;have HL:Hid (l.length=L):=hL;have⟨w1,hw1⟩:=aZ (w.alloc (.cells #[.slice (some ⟨g,o,none⟩) L c,.map (some m)] 268));have b1:Z w w1:=by rw[← hw1];exact dY
 have p0:w1.cell? ⟨w.heap.size,0,none⟩=some (.slice (some ⟨g,o,none⟩) L c):=by rw[← hw1];simp[go_sem]
 have p1:w1.cell? ⟨w.heap.size,1,none⟩=some (.map (some m)):=by rw[← hw1];simp[go_sem]
 have z1:w1.heap.size=w.heap.size+1:=by rw[← hw1];simp
 have⟨w2,hmk,hrow,b2,z2⟩:=Ah w1 (L:=L) ak;obtain⟨w3,hw3⟩:∃w3,(w2.alloc (.cells #[.slice (some ⟨w1.heap.size,0,none⟩) L L] 123)).alloc (.cells #[.func (.func 290) #[] #[.pointer (some ⟨w.heap.size,0,none⟩),.pointer (some ⟨w2.heap.size+1,0,none⟩),.pointer (some ⟨w2.heap.size,0,none⟩)]] 143)=w3:=⟨_,rfl⟩;have b3:Z w2 w3:=by rw[← hw3];exact dY.alloc dF _
 have q1:w3.cell? ⟨w2.heap.size,0,none⟩=some (.slice (some ⟨w1.heap.size,0,none⟩) L L):=by rw[← hw3];simp[go_sem]
 have q2:w3.cell? ⟨w2.heap.size+1,0,none⟩=some (.func (.func 290) #[] #[.pointer (some ⟨w.heap.size,0,none⟩),.pointer (some ⟨w2.heap.size+1,0,none⟩),.pointer (some ⟨w2.heap.size,0,none⟩)]):=by rw[← hw3];simp[go_sem]
 have B2:Z w w2:=b1.trans (b2.mono ak);have B3:Z w w3:=B2.trans (b3.mono ak);have hcall:=agX (c:=c) (fa:=w.heap.size) (ca:=w2.heap.size+1) (sa:=w2.heap.size) (sb:=w1.heap.size) jS yP Ux ru ak ak ak ak 5 (n:=0) (d:=0) (D:=fun _=>False) (w:=w3) B3
  ⟨by rw[hL];exact aQ b3 (aQ b2 p0),aQ b3 (aQ b2 p1),by rw[hL];exact q1,q2⟩ ⟨_,by rw[hL];exact hrow.below b3,fun _ _ h=>h.elim⟩ jS.pos rfl ak
 have HZ:Hid (w.heap.size<=w1.heap.size/\w1.heap.size<w2.heap.size):=⟨by omega,by omega⟩;have HB3:Hid _:=B3;have HP:Hid (∀j,j<L->ab9 l 0 (fun _=>False) j):=fun j hj=>.inr ⟨by rw[hL];exact hj,jS.CF (by rw[hL];exact hj)⟩;rw[hL];clear jS yP Ux ru hL b1 b2 b3 B2 B3 hrow z2 hl p1;rw[z1]at hmk;have⟨sb,hsb⟩:=aZ w1.heap.size;have HSB:Hid _:=hsb;rw[hsb]at hcall q1 HZ z1 hw3;subst z1;go_enter func258,ntmps258;go_wp2_with fail
 refine hcall.mono ?_;rintro e w4 ⟨rfl,hr,hc⟩;have q4:=hc.cell q1 (show ¬w2.heap.size=w.heap.size+1 by have:=HZ.out;omega);have HR:Hid (bZ w4 (w.heap.size+1) L (g_ l)):=show bZ w4 (w.heap.size+1) L (g_ l) by obtain⟨f,h1,h2⟩:=hr;rw[HL.out]at h1 h2;exact h1.congr (fun j hj=>h2 j hj (HP.out j hj))
 have HB:Hid (Z w w4):=show Z w w4 from hc.below HB3.out HB3.out.size (fun i hi=>by omega);clear hr hc hcall q1 q2 p0;go_wp2;go_ret;exact⟨w.heap.size+1,rfl,by omega,HR.out,HB.out⟩
def bZ.setAt {b L:Nat} {f f':Nat->Int} (h:bZ w b L f) {x:Int} (hx:f' k=x) (ho:∀j,j<L->j≠k->f' j=f j):bZ (w.setCell ⟨b,k,none⟩ (O x)) b L f':=
 (h.set k x).congr (fun j hj=>by
  grind[Nf])
def agZ {B m g o c:Nat} {fl:Int} (jS:Wu l) (yP:nN l) (Ux:Um w g o l) (ru:vR w B m l l.length v) (hfl:Word fl):
  Calls prog 207 #[.agg #[.slice (some ⟨g,o,none⟩) l.length c,.map (some m)],O fl] w fun e w'=>∃sb,e=.returned (.slice (some ⟨sb,0,none⟩) l.length l.length)/\w.heap.size<=sb/\bZ w' sb l.length (uV l (wV l fl))/\Z w w':=by
 have hW:=wOk jS yP hfl;have bF:Z w (w.alloc (.cells #[.slice (some ⟨g,o,none⟩) l.length c,.map (some m)] 268)):=dY;have hs:=agY (c:=c) jS yP (Ux.below bF) (ru.below bF);have hl:=jS.len;have hp:=jS.pos;have HP:Hid (∀j x,j<l.length->Calls prog 210 #[O (g_ l j),O 9223372036854775808,O (wV l fl)] x fun e w'=>e=.returned (O (uV l (wV l fl) j))/\Z x w'):=fun j x hj=>by have hu:=XL yP hW.word (hW.most j hj);exact Ow (qL yP j) ⟨by omega,by omega⟩ hW.word (show g_ l j*9223372036854775808 / wV l fl<_ by unfold uV at hu;omega) x
 have hmx:(wV l fl=fl/\g_ l 0<fl)\/(wV l fl=g_ l 0/\¬g_ l 0<fl):=by
  unfold wV;by_cases h:g_ l 0<fl
  ·exact .inl ⟨aJ h,h⟩
  ·exact .inr ⟨au h,h⟩
 have⟨L,hL⟩:=aZ l.length;have HL:Hid (l.length=L):=hL;rw[hL]at hs hl hp HP bF ⊢;obtain⟨W,hW'⟩:∃W,wV l fl=W:=⟨_,rfl⟩;rw[hW']at hmx HP ⊢;have HB1:Hid _:=bF;have hl':(0:Int)<L:=ak;clear jS yP Ux ru hfl hW hW' hL bF;go_enter func207,ntmps207;go_wp2_with fail
 refine hs.mono ?_;rintro e w1 ⟨sb,rfl,hsb,hr,hb⟩;simp only[iI]at hsb;have c0:=hr.cell hp;obtain⟨S0,hS0⟩:∃S,g_ l 0=S:=⟨_,rfl⟩;rw[hS0]at c0 hmx;have HR:Hid (bZ w1 sb L (g_ l)):=hr;have HB:Hid (Z w w1):=HB1.out.trans (hb.mono dF);have HSB:Hid (w.heap.size<=sb):=show w.heap.size<=sb by omega
 clear hr hb hs hS0 hsb HB1;have HMX:Hid _:=hmx;clear hmx;go_upto_region 2 with fail
 go_cut [6] (fun x wq=>x=O W/\w1=wq)
 case first=>
  rcases HMX.out with⟨h1,h2⟩ | ⟨h1,h2⟩
  ·have H1:Hid _:=h1;clear h1 HMX;go_wp2;go_meet;exact⟨by rw[H1.out],rfl⟩
  ·have H1:Hid _:=h1;clear h1 HMX;go_wp2;go_meet;exact⟨by rw[H1.out],rfl⟩
 case rest=>
  obtain⟨rfl,rfl⟩:=hcut;clear c0;go_wp2;go_loopg [18] L (fun gk x wr=>∃j:Nat,j+gk=L/\x=J j/\bZ wr sb L (fun i=>if i<j then uV l W i else g_ l i)/\Z w wr)
  case atStart=>exact⟨0,by omega,rfl,by simpa using HR.out,HB.out⟩
  case round=>
   obtain⟨j,hj,rfl,hr,hb⟩:=hrel;by_cases hlt:j<L
   ·have hlt':(j:Int)<L:=ak;have c1:=hr.cell hlt;simp only[Ct,if_false]at c1;have c2:=hr.free j;have cp:=HP.out j wr hlt;have HRR:Hid (∀x,Z wr x->bZ (x.setCell ⟨sb,j,none⟩ (O (uV l W j))) sb L (fun i=>if i<j+1 then uV l W i else g_ l i)):=fun x hx=>(hr.below hx).setAt (by rw[aJ ak]) (fun i _ hne=>by
     by_cases h:i<j
     ·rw[aJ h,aJ ak]
     ·rw[au h,au ak])
    have BO:Hid _:=hb;clear hr hb;generalize g_ l j=Sj at *;generalize uV l W j=Uj at *;go_wp2_with fail
    refine cp.mono ?_;rintro e w2 ⟨rfl,hb2⟩;have d1:=aQ hb2 c1;have d2:=jQ hb2 c1 c2;have HR2:Hid _:=HRR.out w2 hb2;have HB2:Hid (Z w (w2.setCell ⟨sb,j,none⟩ (O Uj))):=(BO.out.trans (hb2.mono BO.out.size)).setCell HSB.out _;clear hb2 cp c1 c2;go_wp2;go_roundg (L - (j+1))
    case measure=>omega
    case rel=>exact⟨j+1,by omega,rfl,HR2.out,HB2.out⟩
   ·obtain rfl:j=L:=ak;have HRR:Hid (bZ wr sb j (uV l W)):=show bZ wr sb j (uV l W)from hr.congr (fun i hi=>aJ hi);have BO:Hid _:=hb;clear hr hb;go_wp2;go_ret;exact⟨sb,rfl,HSB.out,HRR.out,BO.out⟩
def aaj (w:ay) (l:List Ac) (e:Ending) (w':ay):Prop:=
 (dw l=0->∃nb db,e=.returned (.tuple #[.slice (some ⟨nb,0,none⟩) l.length l.length,.slice (some ⟨db,0,none⟩) l.length l.length])/\w.heap.size<=nb/\w.heap.size<=db/\nb≠db/\bZ w' nb l.length (lG l)/\bZ w' db l.length (lN l))/\
 (dw l≠0->e=.returned (.tuple #[.slice none 0 0,.slice none 0 0]))/\Z w w'
def X_ (hA:kD w ao l) (hs:∀a∈l,a.nm.size<=maxLen) (hn:l.length*48<=140737488355328) (hc:l.length<=c):
  Calls prog 163 #[.slice ao l.length c] w (aaj w l):=by
 have hmf:∀(fn:Fn) (first cap:Array Value) (w:ay),(Instr.makeFunc fn first cap).run prog w=.ok (.func fn first cap) w:=fun _ _ _ _=>rfl;have⟨w2,hw2⟩:=aZ ((w.alloc (.cells #[.slice none 0 0] 123)).alloc (.cells #[.slice none 0 0] 123));have b2:Z w w2:=by rw[← hw2];exact dY.alloc dF _
 have z2:w2.heap.size=w.heap.size+1+1:=by rw[← hw2];simp
 have T2:w2.heap[w.heap.size]?=some (.cells #[.slice none 0 0] 123 (0,0)):=by rw[← hw2];exact dD dY (aK w _)
 have U2:w2.heap[w.heap.size+1]?=some (.cells #[.slice none 0 0] 123 (0,0)):=by rw[← hw2];have:=aK (w.alloc (.cells #[.slice none 0 0] 123)) (.cells #[.slice none 0 0] 123);simpa using this
 have Gd:=Ox (c:=c) (hA.below b2) hs hn hc;by_cases hE:dw l=0
 ·have jS:Wu l:=rX hE;have hl:=jS.len;obtain⟨g,o,hao,hcl⟩:=hA;obtain rfl:=hao jS.pos;have HE:Hid (dw l=0):=hE;have F6:Hid (Um w g o l):=hcl;have Qz:Hid (Wu l):=jS;have HB2:Hid _:=b2;have HZ2:Hid _:=z2;have HT2:Hid _:=T2;have HU2:Hid _:=U2;have hp:=jS.pos;have⟨L,hL⟩:=aZ l.length;have HL:Hid (l.length=L):=hL;rw[hL]at Gd hl hp ⊢;have hp':(0:Int)<L:=ak;clear hcl hs hn hc hE hao b2 z2 T2 U2 jS hL;go_enter func163,ntmps163;go_wp2_with fail
  refine Gd.mono ?_;rintro e w3 ⟨h1,_,hb3⟩;obtain⟨m,v,rfl,ru⟩:=h1 HE.out;rw[HL.out];have⟨w4,hw4⟩:=aZ (w3.alloc (.cells #[.slice (some ⟨g,o,none⟩) L c,.map (some m)] 268));have Uy:Z w3 w4:=by rw[← hw4];exact dY
  have WM:Hid (vR w4 w2.heap.size m l l.length v):=ru.below Uy;have B4:Z w w4:=(HB2.out.trans (hb3.mono HB2.out.size)).trans (Uy.mono (by have:=HB2.out.size;have:=hb3.size;omega));have T4:=dD Uy (dD hb3 HT2.out);have U4:=dD Uy (dD hb3 HU2.out);have F4:w4.heap[w3.heap.size]?=some (.cells #[.slice (some ⟨g,o,none⟩) L c,.map (some m)] 268 (0,0)):=by rw[← hw4];exact aK w3 _
  have HF4:Hid _:=F4;have HT4:Hid _:=T4;have HU4:Hid _:=U4;have Bw:Hid _:=B4;have z4:w.heap.size+1+1<=w3.heap.size:=by have:=hb3.size;have:=HZ2.out;omega
  have HZ4:Hid _:=z4;have⟨wB,azB,hr1,bB,zB⟩:=Ah w4.drew (L:=L) ak;have⟨wC,azC,hr2,bC,zC⟩:=Ah wB (L:=L) ak;have TB:=dD bB (show w4.drew.heap[w.heap.size]?=_ from T4);have UB:=dD bB (show w4.drew.heap[w.heap.size+1]?=_ from U4);have TC:=dD bC TB;have UC:=dD bC UB;have zw4:w3.heap.size<w4.heap.size:=(aS.1 F4).1;simp only[World.size_drew]at azB hr1 zB bB;have⟨wD,auE,hr3,bD,zD⟩:=Ah (wB.setCell ⟨w.heap.size,0,none⟩ (.slice (some ⟨w4.heap.size,0,none⟩) L L)) (L:=L) ak;have TB':(wB.setCell ⟨w.heap.size,0,none⟩ (.slice (some ⟨w4.heap.size,0,none⟩) L L)).heap[w.heap.size]?=some (.cells #[.slice (some ⟨w4.heap.size,0,none⟩) L L] 123 (0,0)):=bS _ _ 0 _ _ _ TB;have UB':(wB.setCell ⟨w.heap.size,0,none⟩ (.slice (some ⟨w4.heap.size,0,none⟩) L L)).heap[w.heap.size+1]?=some (.cells #[.slice none 0 0] 123 (0,0)):=fT UB ak;have TD:=dD bD TB';have UD:=dD bD UB';rw[vV]at auE hr3 zD;rw[zB]at azC hr2 auE hr3 zD zC;have tB0:=aj (k:=0) TB rfl;have tB1:=aD (k:=0) TB;have tC0:=aj (k:=0) TC rfl;have tC1:=aD (k:=0) TC;have uC0:=aj (k:=0) UC rfl;have uC1:=aD (k:=0) UC;have uD0:=aj (k:=0) UD rfl;have uD1:=aD (k:=0) UD;have ne1:w.heap.size+1≠w.heap.size:=ak;have CB:aH (fun j=>j=w.heap.size\/j=w.heap.size+1) w4 wB:=(aH.of_below (aN w4) _).trans (aH.of_below (show Below w4.drew.heap.size w4.drew wB from bB) (fun j=>j=w.heap.size\/j=w.heap.size+1)) (fun _ _ h=>h);have CC:aH (fun j=>j=w.heap.size\/j=w.heap.size+1) w4 wC:=CB.trans (aH.of_below bC (fun j=>j=w.heap.size\/j=w.heap.size+1)) (fun _ _ h=>h);have CD:aH (fun j=>j=w.heap.size\/j=w.heap.size+1) w4 wD:=(CB.setCell _ _ (.inl (.inl rfl))).trans (aH.of_below bD (fun j=>j=w.heap.size\/j=w.heap.size+1)) (fun _ _ h=>h);have rBC:=hr1.below bC;have rBD:bZ wD w4.heap.size L (fun _=>0):=(hr1.other (g:=w.heap.size) (k:=0) ak).below bD;have HX:Hid (_/\_/\_/\_/\_/\_/\_/\_/\_/\_/\_):=⟨CC,CD,TC,UC,TD,UD,rBC,hr2,rBD,hr3,zw4⟩;clear h1 Gd ru hb3 Uy T4 U4 F4 B4 TB UB TC UC TB' UB' TD UD CB CC CD rBC rBD hr1 hr2 hr3 bB bC bD zB zC zD;go_upto_region 4 with fail
  go_cut [4] (fun x wq=>x=.pointer (some ⟨w3.heap.size,0,none⟩)/\∃nb db,nb≠db/\w4.heap.size<=nb/\w4.heap.size<=db/\wq.heap[w.heap.size]?=some (.cells #[.slice (some ⟨nb,0,none⟩) L L] 123 (0,0))/\wq.heap[w.heap.size+1]?=some (.cells #[.slice (some ⟨db,0,none⟩) L L] 123 (0,0))/\bZ wq nb L (fun _=>0)/\bZ wq db L (fun _=>0)/\aH (fun j=>j=w.heap.size\/j=w.heap.size+1) w4 wq)
  case first=>
   go_region_with (fail)
   all_goals
    go_wp2
    go_meet
    have⟨CC,CD,TC,UC,TD,UD,rBC,rC,rBD,rD,zw⟩:=HX.out
    have z4:=HZ4.out
    first
     | exact⟨rfl,w4.heap.size,w4.heap.size+1,by omega,by omega,by omega,fT (bS _ _ 0 _ _ _ TC) ak,bS _ _ 0 _ _ _ (fT UC ak),(rBC.other ak).other ak,(rC.other ak).other ak,(CC.setCell _ _ (.inl (.inl rfl))).setCell _ _ (.inl (.inr rfl))⟩
     | exact⟨rfl,w4.heap.size+1,w4.heap.size,by omega,by omega,by omega,fT (bS _ _ 0 _ _ _ TC) ak,bS _ _ 0 _ _ _ (fT UC ak),(rC.other ak).other ak,(rBC.other ak).other ak,(CC.setCell _ _ (.inl (.inl rfl))).setCell _ _ (.inl (.inr rfl))⟩
     | exact⟨rfl,w4.heap.size,w4.heap.size+1,by omega,by omega,by omega,fT TD ak,bS _ _ 0 _ _ _ UD,rBD.other ak,rD.other ak,CD.setCell _ _ (.inl (.inr rfl))⟩
  case rest=>
   obtain⟨rfl,nb,db,hnd,hn4,hd4,TQ,UQ,rN,rD,CQ⟩:=hcut;obtain⟨_,_,_,_,_,_,_,_,_,_,zw⟩:=HX.out;have z4:=HZ4.out;have x1:=aj (k:=0) TQ rfl;have x2:=aj (k:=0) UQ rfl;have x3:=rN.cell hp;have x4:=rN.free 0;have x5:=rD.cell hp;have x6:=rD.free 0;have n1:nb≠w.heap.size:=ak;have n2:nb≠w.heap.size+1:=ak;have n3:db≠w.heap.size:=ak;have n4:db≠w.heap.size+1:=ak;have F4q:wc.heap[w3.heap.size]?=some (.cells #[.slice (some ⟨g,o,none⟩) L c,.map (some m)] 268 (0,0)):=(CQ.block w3.heap.size zw ak).trans HF4.out;have HSZ:Hid (nb<wc.heap.size/\db<wc.heap.size):=⟨rN.lt,rD.lt⟩;have⟨w6,uH⟩:=aZ (((wc.setCell ⟨nb,0,none⟩ (O 1)).setCell ⟨db,0,none⟩ (O 1)).drew);have HT6:Hid (w6.heap[w.heap.size]?=some (.cells #[.slice (some ⟨nb,0,none⟩) L L] 123 (0,0))):=show w6.heap[w.heap.size]?=_ by rw[← uH];exact fT (fT TQ (iN n1)) (iN n3)
   have HU6:Hid (w6.heap[w.heap.size+1]?=some (.cells #[.slice (some ⟨db,0,none⟩) L L] 123 (0,0))):=show w6.heap[w.heap.size+1]?=_ by rw[← uH];exact fT (fT UQ (iN n2)) (iN n4)
   have HF6:Hid (w6.heap[w3.heap.size]?=some (.cells #[.slice (some ⟨g,o,none⟩) L c,.map (some m)] 268 (0,0))):=show w6.heap[w3.heap.size]?=_ by rw[← uH];exact fT (fT F4q ak) ak
   have HN6:Hid (bZ w6 nb L (Nf (fun _=>0) 0 1)):=show bZ w6 nb L _ by rw[← uH];exact((rN.set 0 1).other hnd).below (aN _)
   have HD6:Hid (bZ w6 db L (Nf (fun _=>0) 0 1)):=show bZ w6 db L _ by rw[← uH];exact((rD.other (iN hnd)).set 0 1).below (aN _)
   have C6:aH (fun j=>j=w.heap.size\/j=w.heap.size+1) w4 w6:=by rw[← uH];exact((CQ.setCell _ _ (.inr hn4)).setCell _ _ (.inr hd4)).drew
   have HC6:Hid _:=C6;have HB6:Hid (Z w w6):=show Z w w6 from C6.below Bw.out Bw.out.size (fun i hi=>by omega);have HA6:Hid (∀x,aH (fun j=>j=nb\/j=db) w6 x->Um x g o l):=fun x hx k a ha=>by have hgl:g<w.heap.size:=aU w _ (F6.out k a ha).nm;have hb:=hx.below HB6.out HB6.out.size (fun i hi=>by omega);exact(F6.out k a ha).lo hb hgl
   have HR6:Hid (∀x,aH (fun j=>j=nb\/j=db) w6 x->vR x w2.heap.size m l l.length v):=fun x hx=>by have z2:=HZ2.out;have hb4:aH (fun j=>(j=w.heap.size\/j=w.heap.size+1)\/w4.heap.size<=j) w4 x:=(C6.mono (fun _ _ h=>.inl h)).trans hx (fun i hi h=>.inr ak);exact WM.out.fF hb4 (fun j hj=>by omega)
   have HNE:Hid (nb≠db/\nb≠w.heap.size/\nb≠w.heap.size+1/\db≠w.heap.size/\db≠w.heap.size+1/\nb≠w3.heap.size/\db≠w3.heap.size/\w4.heap.size<=nb/\w4.heap.size<=db):=⟨hnd,n1,n2,n3,n4,by omega,by omega,hn4,hd4⟩;clear TQ UQ rN rD CQ F4q C6 hn4 hd4 zw z4 HX;go_upto_region 5 with fail
   go_cut [4] (fun x wq=>x=.pointer (some ⟨w3.heap.size,0,none⟩)/\w6=wq)
   case first=>
    go_region_with (fail)
    all_goals
     go_wp2
     go_meet
     exact⟨rfl,rfl⟩
   case rest=>
    obtain⟨rfl,rfl⟩:=hcut;have⟨hnd,n1,n2,n3,n4,n5,n6,hn4,hd4⟩:=HNE.out;have f0:=aj (k:=0) HF6.out rfl;have f1:=aj (k:=1) HF6.out rfl;have t0:=aj (k:=0) HT6.out rfl;have u0:=aj (k:=0) HU6.out rfl;have hinv:Ng w6 m g o c w.heap.size w3.heap.size (w.heap.size+1) nb db l (fun j=>j=0) w6:=⟨aH.refl _ _,by rw[HL.out];exact t0,by rw[HL.out];exact f0,f1,by rw[HL.out];exact u0,
     ⟨_,by rw[HL.out];exact HN6.out,fun j _ hj=>by rw[hj,afR];rfl⟩,⟨_,by rw[HL.out];exact HD6.out,fun j _ hj=>by rw[hj,afS];rfl⟩,hnd⟩
    have hdn:=Oz (WF:=w6) (w:=w6) (L:=L) (c:=c) (ao:=some ⟨g,o,none⟩) (fn:=205) (C:= #[.pointer (some ⟨w.heap.size,0,none⟩),.pointer (some ⟨w3.heap.size,0,none⟩),.pointer (some ⟨w.heap.size+1,0,none⟩)]) (K:=fun j=>j=nb\/j=db) (Inv:=Ng w6 m g o c w.heap.size w3.heap.size (w.heap.size+1) nb db l) Qz.out HR6.out
     (fun j hj=>by
      rcases hj with rfl | rfl
      ·exact HN6.out.lt
      ·exact HD6.out.lt) (aH.refl _ _) (fun _ _ _ h b=>h.st b) (fun _ _=>by kernel_rfl) (fun D k x=>agt Qz.out HA6.out HR6.out (iN n1) (iN n5) (iN n2) (iN n3) (iN n6) (iN n4) D k x) hinv
    clear hinv t0 u0 x1 x2 x3 x4 x5 x6;go_wp2_with fail
    refine hdn.mono ?_;rintro e w7 ⟨rfl,hi,hch⟩;have⟨fn,rn,hfn⟩:=hi.num;have⟨fd,rd,hfd⟩:=hi.den;have q1:=hi.c1;have q3:=hi.c3;rw[HL.out]at rn hfn rd hfd q1 q3;have T7:w7.heap[w.heap.size]?=some (.cells #[.slice (some ⟨nb,0,none⟩) L L] 123 (0,0)):=(hch.block w.heap.size (aS.1 HT6.out).1 ak).trans HT6.out;have U7:w7.heap[w.heap.size+1]?=some (.cells #[.slice (some ⟨db,0,none⟩) L L] 123 (0,0)):=(hch.block (w.heap.size+1) (aS.1 HU6.out).1 ak).trans HU6.out;have RN:bZ w7 nb L (lG l):=rn.congr (fun j hj=>hfn j hj hj);have RD:bZ w7 db L (lN l):=rd.congr (fun j hj=>hfd j hj hj);have hB7:Z w w7:=hch.below HB6.out HB6.out.size (fun i hi=>by have:=HZ4.out;have:=Bw.out.size;omega);have s1:=aD (k:=0) T7;have s3:=aD (k:=0) U7;have⟨w8,hw8⟩:=aZ (((w7.setCell ⟨w.heap.size,0,none⟩ (.slice (some ⟨nb,0,none⟩) L L)).setCell ⟨w.heap.size+1,0,none⟩ (.slice (some ⟨db,0,none⟩) L L)).drew);have T8:w8.heap[w.heap.size]?=some (.cells #[.slice (some ⟨nb,0,none⟩) L L] 123 (0,0)):=(by rw[← hw8];exact fT (bS _ _ 0 _ _ _ T7) ak);have U8:w8.heap[w.heap.size+1]?=some (.cells #[.slice (some ⟨db,0,none⟩) L L] 123 (0,0)):=(by rw[← hw8];exact bS _ _ 0 _ _ _ (fT U7 ak));have HRN:Hid (bZ w8 nb L (lG l)):=show bZ w8 nb L (lG l) by rw[← hw8];exact((RN.other n1).other n2).below (aN _)
    have HRD:Hid (bZ w8 db L (lN l)):=show bZ w8 db L (lN l) by rw[← hw8];exact((RD.other n3).other n4).below (aN _)
    have HB8:Hid (Z w w8):=show Z w w8 by rw[← hw8];exact((hB7.setCell dF _).setCell dF _).drew
    have HT8:Hid _:=T8;have HU8:Hid _:=U8;clear hi hch hdn rn hfn rd hfd T7 U7 RN RD hB7 T8 U8 f0 f1;go_upto_region 7 with fail
    go_cut [4] (fun x wq=>x=.pointer (some ⟨w3.heap.size,0,none⟩)/\w8=wq)
    case first=>
     go_region_with (fail)
     all_goals
      go_wp2
      go_meet
      exact⟨rfl,rfl⟩
    case rest=>
     obtain⟨rfl,rfl⟩:=hcut;have y1:=aj (k:=0) HT8.out rfl;have y2:=aj (k:=0) HU8.out rfl;go_wp2;refine b_ (v:=.tuple #[.slice (some ⟨nb,0,none⟩) L L,.slice (some ⟨db,0,none⟩) L L]) (by simp[results,results163,go_sem,y1,y2]) rfl ⟨fun _=>⟨nb,db,by rw[HL.out],?_,?_,hnd,by rw[HL.out];exact HRN.out,by rw[HL.out];exact HRD.out⟩,fun h=>absurd HE.out h,HB8.out⟩
     ·have:=Bw.out.size;omega
     ·have:=Bw.out.size;omega
 ·obtain ⟨er,her⟩:∃er,dw l=er:=⟨_,rfl⟩;have HR:Hid (dw l≠0):=hE;have HB2:Hid _:=b2;have HZ2:Hid _:=z2;have HT2:Hid _:=T2;have HU2:Hid _:=U2;clear hs hn hc her b2 z2 T2 U2 hE hA;go_enter func163,ntmps163;go_wp2_with fail
  refine Gd.mono ?_;rintro e w3 ⟨_,h2,hb3⟩;obtain rfl:=h2 HR.out;have Uy:Z w3 (w3.alloc (.cells #[.slice none 0 0,.map none] 268)):=dY;have T4:=dD Uy (dD hb3 HT2.out);have U4:=dD Uy (dD hb3 HU2.out);have c0:=aj (k:=0) T4 rfl;have c1:=aj (k:=0) U4 rfl;have f0:=aD (k:=0) T4;have f1:=aD (k:=0) U4;have hne:w.heap.size+1≠w.heap.size:=ak;have B4:Hid (Z w (w3.alloc (.cells #[.slice none 0 0,.map none] 268))):=(HB2.out.trans (hb3.mono HB2.out.size)).trans (Uy.mono (by have:=HB2.out.size;have:=hb3.size;omega));clear T4 U4 hb3 h2 Gd Uy;go_wp2;refine b_ (v:=.tuple #[.slice none 0 0,.slice none 0 0]) (by simp[results,results163,go_sem, *]) rfl ⟨fun h=>absurd h HR.out,fun _=>rfl,?_⟩;exact(B4.out.setCell dF _).setCell dF _
end
section
open Go.RowKit Wd Tr Go.Maps Cg
def Cc (cf:Cf):Int:=cZ cf*4294967296
def auI (w:ay) (cf:Cf) (l:List Ac) (e:Ending) (w':ay):Prop:=
 (dw l=0/\gq cf=0->∃ub,e=.returned (.slice (some ⟨ub,0,none⟩) l.length l.length)/\w.heap.size<=ub/\bZ w' ub l.length (uK l (wV l (Cc cf))))/\
 (¬(dw l=0/\gq cf=0)->e=.returned (.slice none 0 0))/\Z w w'
def QI (h:gq cf=0):Word (Cc cf):=by
 obtain⟨r,_,_⟩:=Qn h;have:=wF r;grind[Cc,Word]
def Js (w:ay) (kf g o L c m:Nat) (cf:Cf) (x:ay):Prop:=St w w.heap.size cf x/\x.cell? ⟨kf,0,none⟩=some (.slice (some ⟨g,o,none⟩) L c)/\x.cell? ⟨kf,1,none⟩=some (.map (some m))
def Js.keep {w x y:ay} {kf g o L c m:Nat} (h:Js w kf g o L c m cf x) (b:Z x y):Js w kf g o L c m cf y:=⟨keepW h.1 b,aQ b h.2.1,aQ b h.2.2⟩
def Js.far {w x u:ay} {kf g o L c m:Nat} {a:Value} (h:Js w kf g o L c m cf x) (hu:Js w kf g o L c m cf u):Js w kf g o L c m cf (x.setCell ⟨u.heap.size,0,none⟩ a):=by
 have n1:=aU u _ hu.1.1;have n2:=aU u _ hu.2.1;simp only at n1 n2;have y1:w.heap.size≠u.heap.size:=ak;have y2:kf≠u.heap.size:=ak;have z:=hu.1.2.2.2.2.2.2.2.2.2;obtain⟨⟨a0,a1,a2,a3,a4,a5,a6,a7,bb,zz⟩,d0,d1⟩:=h;exact⟨⟨dI a0 (.inl y1),dI a1 (.inl y1),dI a2 (.inl y1),dI a3 (.inl y1),dI a4 (.inl y1),dI a5 (.inl y1),dI a6 (.inl y1),dI a7 (.inl y1),bb.setCell z _,by simp_all⟩,dI d0 (.inl y2),dI d1 (.inl y2)⟩
def Nl (hA:kD w ao l) (hs:∀a∈l,a.nm.size<=maxLen) (yP:nN l) (hn:l.length*48<=140737488355328) (hc:l.length<=c):
  Calls prog 164 #[gY cf,.slice ao l.length c] w (auI w cf l):=by
 have hmf:∀(fn:Fn) (first cap:Array Value) (w:ay),(Instr.makeFunc fn first cap).run prog w=.ok (.func fn first cap) w:=fun _ _ _ _=>rfl;have hS:=St.new w cf;have c1:=jA cf;unfold gY at *;have⟨w2,hw2⟩:=aZ (w.alloc (.cells #[J cf.nodes,J cf.queue,J cf.limit,J cf.age,J cf.fair,J cf.size,J cf.period,J cf.half] 23));have b2:Z w w2:=by rw[← hw2];exact dY
 rw[hw2]at hS;have Gd:=Ox (c:=c) (hA.below b2) hs hn hc;by_cases hE:dw l=0
 ·have jS:Wu l:=rX hE;have hl:=jS.len;obtain⟨g,o,hao,hcl⟩:=hA;obtain rfl:=hao jS.pos;have HE:Hid (dw l=0):=hE;have F6:Hid (Um w g o l):=hcl;have Qz:Hid (Wu l):=jS;have HUS:Hid (nN l):=yP;have HB2:Hid _:=b2;have hp:=jS.pos;have⟨L,hL⟩:=aZ l.length;have HL:Hid (l.length=L):=hL;rw[hL]at Gd hl hp ⊢;have HS2:Hid (St w w.heap.size cf w2):=hS;clear hcl hs hn hc hE hao b2 jS hL yP hS;by_cases hK:gq cf=0
  ·have HK:Hid (gq cf=0):=hK;rw[hK]at c1;have cF:=XW hK;unfold gY at cF;have HFW:Hid (Word (Cc cf)):=QI hK;have HFE:Hid (cZ cf*4294967296=Cc cf):=show cZ cf*4294967296=Cc cf from rfl;rw[HFE.out]at cF;clear hK;go_enter func164,ntmps164;go_wp2_with fail
   refine Gd.mono ?_;rintro e w3 ⟨h1,_,hb3⟩;obtain⟨m,v,rfl,ru⟩:=h1 HE.out;rw[HL.out];have⟨w4,hw4⟩:=aZ (w3.alloc (.cells #[.slice (some ⟨g,o,none⟩) L c,.map (some m)] 268));have Uy:Z w3 w4:=(by rw[← hw4];exact dY);have WM:Hid (vR w4 w2.heap.size m l l.length v):=ru.below Uy;have s4:St w w.heap.size cf w4:=keepW (keepW HS2.out hb3) Uy;have F4:w4.heap[w3.heap.size]?=some (.cells #[.slice (some ⟨g,o,none⟩) L c,.map (some m)] 268 (0,0)):=(by rw[← hw4];exact aK w3 _);have HF4:Hid _:=F4;have HS4:Hid (St w w.heap.size cf w4):=s4;obtain⟨s0,s1,s2,s3,s4',s5,s6,s7,_,_⟩:=id s4;clear h1 Gd ru hb3 Uy s4;go_wp2_with fail
   refine(c1 _).mono ?_;rintro e w5 ⟨rfl,hb5⟩;have Ya:Hid (Z w4 w5):=hb5;have hE5:Js w w3.heap.size g o L c m cf w5:=⟨keepW HS4.out hb5,aQ hb5 (aj (k:=0) F4 rfl),aQ hb5 (aj (k:=1) F4 rfl)⟩;have auJ:∀x,Z w5 x->Calls prog 207 #[.agg #[.slice (some ⟨g,o,none⟩) L c,.map (some m)],O (Cc cf)] x fun e w'=>∃sb,e=.returned (.slice (some ⟨sb,0,none⟩) L L)/\x.heap.size<=sb/\bZ w' sb L (uV l (wV l (Cc cf)))/\Z x w':=fun x hx=>by
    have:=agZ (c:=c) Qz.out HUS.out (F6.out.lo ((HS4.out.dQ.trans (hb5.mono HS4.out.2.2.2.2.2.2.2.2.2)).trans (hx.mono (by have:=HS4.out.2.2.2.2.2.2.2.2.2;have:=hb5.size;omega))) (fun k a ha=>aU w _ (F6.out k a ha).nm)) ((WM.out.below hb5).below hx) HFW.out (w:=x)
    rw[HL.out]at this;exact this
   have HU5:Hid _:=auJ;have Uz:=hE5.1.2.2.2.2.2.2.2.2.2;have⟨kf,hkf⟩:=aZ w3.heap.size;rw[hkf]at hE5 ⊢;have HKF:Hid (w3.heap.size=kf):=hkf;have HV:Hid (Js w kf g o L c m cf w5):=hE5;have HS:Hid (Js w kf g o L c m cf w5.drew):=hE5.keep (aN w5);have HZ5:Hid _:=Uz;clear F4 hb5 hE5 auJ Uz s0 s1 s2 s3 s4' s5 s6 s7 hkf;generalize hFL:Cc cf=FL at *;have Ug:Hid (Cc cf=FL):=hFL;clear hFL;go_upto_region 4 with fail
   go_cut [7] (fun b wq=>∃g7 sb:Nat,b=.pointer (some ⟨g7,0,none⟩)/\wq.heap[g7]?=some (.cells #[.slice (some ⟨sb,0,none⟩) L L] 123 (0,0))/\bZ wq sb L (uV l (wV l FL))/\w5.heap.size<=sb/\w5.heap.size<=g7/\g7≠sb/\Z w5 wq)
   case first=>
    go_region_held3 (fun x=>(x.cell? ⟨w.heap.size,0,none⟩=some (J cf.nodes)/\x.cell? ⟨w.heap.size,1,none⟩=some (J cf.queue)/\x.cell? ⟨w.heap.size,2,none⟩=some (J cf.limit)/\x.cell? ⟨w.heap.size,3,none⟩=some (J cf.age)/\x.cell? ⟨w.heap.size,4,none⟩=some (J cf.fair)/\x.cell? ⟨w.heap.size,5,none⟩=some (J cf.size)/\x.cell? ⟨w.heap.size,6,none⟩=some (J cf.period)/\x.cell? ⟨w.heap.size,7,none⟩=some (J cf.half)/\Z w x/\w.heap.size<=x.heap.size)/\x.cell? ⟨kf,0,none⟩=some (.slice (some ⟨g,o,none⟩) L c)/\x.cell? ⟨kf,1,none⟩=some (.map (some m))) (first | exact HS.out | exact HY.out | exact HX.out | exact Js.far HY.out HX.out | exact Js.far HY.out HV.out | exact Js.far HY.out HS.out | exact Js.keep HY.out dY | exact Js.keep lV lV | exact Js.keep lV dY | exact Js.keep HS.out dY | exact Js.far lV lV | exact Js.far lV HS.out | exact Js.keep HX.out dY)
     (first
     | (go_at_call 208;refine(cF _).mono ?_;rintro e x ⟨rfl,hx⟩;have HX:Hid (Js w kf g o L c m cf x):=Js.keep (by first | exact HS.out | assumption) hx;have BX:Hid (Z w5 x):=(by first | exact(aN w5).trans hx | exact(((aI _ w5).alloc (aC _) _).drew).trans (hx.mono dF));have⟨hc1,hf1⟩:=zG hx)
     | (go_at_call 207;refine(HU5.out _ (by first | exact BX.out | exact BX.out.alloc BX.out.size _)).mono ?_;rintro e y ⟨sb,rfl,hsb,hr,hy⟩;have HY:Hid (Js w kf g o L c m cf y):=Js.keep (by first | exact HX.out | assumption) hy;have⟨hc3,hf3⟩:=zG hy;(first | (have g3:=xU hc1 hc3;have j3:=uT hc1 hf1 hf3) | skip)))
    all_goals
     have HXs:Hid _:=hx
     have HYs:Hid _:=hy
     have HRr:Hid (bZ y sb L (uV l (wV l FL))):=hr
     have HSb:Hid _:=hsb
     clear HS HX HY HV hc1 hf1 hc3 hf3 hr hx hy hsb
     go_wp2
     go_meet
     have sx:=HXs.out.size
     have sy:=HYs.out.size
     have ss:=HSb.out
     have sbx:=BX.out.size
     simp only[iI,World.size_drew]at sx sy ss
     first
      | exact⟨w5.heap.size,sb,rfl,bS _ _ 0 _ _ _ (dD HYs.out (dD HXs.out (aK w5 _))),HRr.out.other ak,by omega,by omega,by omega,(BX.out.trans (HYs.out.mono BX.out.size)).setCell (aC _) _⟩
      | exact⟨x.heap.size,sb,rfl,bS _ _ 0 _ _ _ (dD HYs.out (aK x _)),HRr.out.other ak,by omega,by omega,by omega,((BX.out.alloc ak _).trans (HYs.out.mono fE)).setCell fE _⟩
      | exact⟨y.heap.size,sb,rfl,aK y _,HRr.out.below dY,by omega,by omega,by have:=HRr.out.lt;omega,(BX.out.trans (HYs.out.mono BX.out.size)).alloc ak _⟩
   case rest=>
    obtain⟨g7,sb,rfl,hg7,hr,hsb,aFG,hne,hb6⟩:=hcut;have Uz:=HZ5.out;have hE6:=HV.out.keep hb6;have f0:=hE6.2.1;have f1:=hE6.2.2;have t0:=aj (k:=0) hg7 rfl;have hkl:kf<w5.heap.size:=aU w5 _ HV.out.2.1;have hW:=wOk Qz.out HUS.out HFW.out;have hinv:QB wc m g o c g7 kf sb l (wV l FL) (fun j=>j=0) wc:=⟨aH.refl _ _,by rw[HL.out];exact t0,by rw[HL.out];exact f0,f1,⟨_,by rw[HL.out];exact hr,fun j _=>⟨fun h=>by rw[h,Z7],fun _=>rfl⟩⟩⟩;have Nh:∀x,aH (fun j=>j=sb) wc x->Um x g o l:=fun x hx=>by have hb:=hx.below (hE6.1.dQ) hE6.1.2.2.2.2.2.2.2.2.2 (fun i hi=>by omega);exact F6.out.lo hb (fun k a ha=>aU w _ (F6.out k a ha).nm)
    have hbr:∀x,aH (fun j=>j=sb) wc x->vR x w2.heap.size m l l.length v:=fun x hx=>(WM.out.below Ya.out).below (hx.below hb6 hb6.size (fun i hi=>by omega));have hdn:=Oz (WF:=wc) (w:=wc) (L:=L) (c:=c) (ao:=some ⟨g,o,none⟩) (fn:=209) (C:= #[.pointer (some ⟨g7,0,none⟩),.pointer (some ⟨kf,0,none⟩)]) (K:=fun j=>j=sb) (Inv:=QB wc m g o c g7 kf sb l (wV l FL)) Qz.out hbr
     (fun j hj=>by rw[hj];exact hr.lt) (aH.refl _ _) (fun _ _ _ h b=>h.st b) (fun _ _=>by kernel_rfl) (fun D k x=>agv Qz.out HUS.out hW Nh hbr hne ak D k x) hinv
    have HBE:Hid (Z w wc):=hE6.1.dQ;clear hinv Nh hbr hE6 hg7 hr t0 hb6 HV HS HU5;go_wp2_with fail
    refine hdn.mono ?_;rintro e w7 ⟨rfl,hi,hch⟩;have⟨fn,rn,hfn⟩:=hi.row;have q1:=hi.c1;rw[HL.out]at rn hfn q1;have HRW:Hid (bZ w7 sb L (uK l (wV l FL))):=show bZ w7 sb L (uK l (wV l FL))from rn.congr (fun j hj=>(hfn j hj).1 hj);have HB7:Hid (Z w w7):=show Z w w7 from hch.below HBE.out HBE.out.size (fun i hi=>by omega);clear hi hch hdn rn hfn f0 f1;go_wp2;go_ret;exact⟨fun _=>⟨sb,by rw[HL.out];rfl,by omega,by rw[HL.out,Ug.out];exact HRW.out⟩,fun h=>absurd ⟨HE.out,HK.out⟩ h,HB7.out⟩
  ·have HK:Hid (¬gq cf=0):=hK;have⟨er,her⟩:=aZ (gq cf);rw[her]at c1 hK;have hK':(er==0)=false:=(by simp[hK]);clear her;go_enter func164,ntmps164;go_wp2_with fail
   refine Gd.mono ?_;rintro e w3 ⟨h1,_,hb3⟩;obtain⟨m,v,rfl,ru⟩:=h1 HE.out;rw[HL.out];have⟨w4,hw4⟩:=aZ (w3.alloc (.cells #[.slice (some ⟨g,o,none⟩) L c,.map (some m)] 268));have Uy:Z w3 w4:=(by rw[← hw4];exact dY);have s4:St w w.heap.size cf w4:=keepW (keepW HS2.out hb3) Uy;have HS4:Hid (St w w.heap.size cf w4):=s4;obtain⟨s0,s1,s2,s3,s4',s5,s6,s7,_,_⟩:=id s4;clear h1 Gd ru hb3 Uy s4;go_wp2_with fail
   refine(c1 _).mono ?_;rintro e w5 ⟨rfl,hb5⟩;have HB:Hid (Z w w5):=(keepW HS4.out hb5).dQ;clear hb5 s0 s1 s2 s3 s4' s5 s6 s7;go_wp2;go_ret;exact⟨fun h=>absurd h.2 HK.out,fun _=>rfl,HB.out⟩
 ·have HE:Hid (¬dw l=0):=hE;have HS2:Hid (St w w.heap.size cf w2):=hS;clear hs hn hc hE hA b2 yP hS c1;go_enter func164,ntmps164;go_wp2_with fail
  refine Gd.mono ?_;rintro e w3 ⟨_,h2,hb3⟩;obtain rfl:=h2 HE.out;have HB:Hid (Z w (w3.alloc (.cells #[.slice none 0 0,.map none] 268))):=((keepW HS2.out hb3).dQ).alloc (by have:=(keepW HS2.out hb3).2.2.2.2.2.2.2.2.2;omega) _;clear hb3 h2 Gd;go_wp2;go_ret;exact⟨fun h=>absurd h.1 HE.out,fun _=>rfl,HB.out⟩
end
section
open Go.RowKit Wd Tr Go.Maps Cg Ld
def aqr (w:ay) (cf:Cf) (l:List Ac) (e:Ending) (w':ay):Prop:=
 (dw l=0/\gq cf=0->∃ub,e=.returned (.slice (some ⟨ub,0,none⟩) l.length l.length)/\w.heap.size<=ub/\bZ w' ub l.length (mF l (wV l (Cc cf))))/\
 (¬(dw l=0/\gq cf=0)->e=.returned (.slice none 0 0))/\Z w w'
def aqs {a0 a1:Addr} {v0 v1:Value} (hb:Z W w) (h:W.cell? a0=some v0/\W.cell? a1=some v1):w.cell? a0=some v0/\w.cell? a1=some v1:=
 ⟨aQ hb h.1,aQ hb h.2⟩
def auK {nb db ub j k:Nat} {u v0 v1:Value} (h1:nb≠ub) (h2:db≠ub) (h:W.cell? ⟨nb,j,none⟩=some v0/\W.cell? ⟨db,j,none⟩=some v1):(W.setCell ⟨ub,k,none⟩ u).cell? ⟨nb,j,none⟩=some v0/\(W.setCell ⟨ub,k,none⟩ u).cell? ⟨db,j,none⟩=some v1:=
 ⟨dI h.1 (.inl h1),dI h.2 (.inl h2)⟩
def Hu (hT:Tab w) (hA:kD w ao l) (hs:∀a∈l,a.nm.size<=maxLen) (yP:nN l) (hn:l.length*48<=140737488355328) (hc:l.length<=c):
  Calls prog 118 #[gY cf,.slice ao l.length c] w (aqr w cf l):=by
 have hS:=St.new w cf;have⟨w2,hw2⟩:=aZ (w.alloc (.cells #[J cf.nodes,J cf.queue,J cf.limit,J cf.age,J cf.fair,J cf.size,J cf.period,J cf.half] 23));have b2:Z w w2:=by rw[← hw2];exact dY
 rw[hw2]at hS;have hsh:=X_ (c:=c) (hA.below b2) hs hn hc;have HEF:Hid (∀x,Z w x->Calls prog 164 #[gY cf,.slice ao l.length c] x (auI x cf l)):=fun x hx=>Nl (hA.below hx) hs yP hn hc;unfold gY at *;have HS2:Hid (St w w.heap.size cf w2):=hS;have⟨L,hL⟩:=aZ l.length;have HL:Hid (l.length=L):=hL;have HUS:Hid (nN l):=yP;have HT:Hid (Tab w):=hT;rw[hL]at hsh HEF ⊢;clear hA hs hn hc b2 hS yP hT hL;by_cases hOK:dw l=0/\gq cf=0
 ·have Sn:Hid (dw l=0/\gq cf=0):=hOK;have jS:Wu l:=rX hOK.1;have Qz:Hid (Wu l):=jS;have hl:L<=64:=by rw[← HL.out];exact jS.len
  have hW:WOk l (wV l (Cc cf)):=wOk jS HUS.out (QI hOK.2);have⟨W,hWW⟩:=aZ (wV l (Cc cf));have HWW:Hid (wV l (Cc cf)=W):=hWW;rw[hWW]at hW;have HW:Hid (WOk l W):=hW;clear hOK jS hW hWW;go_enter func118,ntmps118;go_wp2_with fail
  refine hsh.mono ?_;rintro e w3 ⟨h1,_,hb3⟩;obtain⟨nb,db,rfl,hnb,hdb,hnd,rN,rD⟩:=h1 Sn.out.1;rw[HL.out]at rN rD ⊢;have s3':=keepW HS2.out hb3;have HB3:Hid (Z w w3):=s3'.dQ;have hef:=HEF.out w3 s3'.dQ;have hz3:=s3'.2.2.2.2.2.2.2.2.2;have HR3:Hid (bZ w3 nb L (lG l)/\bZ w3 db L (lN l)):=⟨rN,rD⟩;obtain⟨s0,s1,s2,s3,s4,s5,s6,s7,_,_⟩:=id s3';clear h1 hsh hb3 s3' rN rD;go_wp2_with fail
  refine hef.mono ?_;rintro e w4 ⟨h1,_,hb4⟩;obtain⟨ub,rfl,hub,rE⟩:=h1 Sn.out;rw[HWW.out,HL.out]at rE;rw[HL.out];have HR4:Hid (bZ w4 nb L (lG l)/\bZ w4 db L (lN l)/\bZ w4 ub L (uK l W)):=⟨HR3.out.1.below hb4,HR3.out.2.below hb4,rE⟩;have Bw:Hid (Z w w4):=HB3.out.trans (hb4.mono hz3);have HUB:Hid (ub≠nb/\ub≠db/\w.heap.size<=ub):=⟨by have:=HR3.out.1.lt;omega,by have:=HR3.out.2.lt;omega,by omega⟩;clear h1 hef hb4 rE s0 s1 s2 s3 s4 s5 s6 s7 HEF;go_wp2;go_loopg [20] L (fun gk x wr=>∃j:Nat,j+gk=L/\x=J j/\bZ wr nb L (lG l)/\bZ wr db L (lN l)/\bZ wr ub L (fun i=>if i<j then mF l W i else uK l W i)/\Z w wr)
  case atStart=>exact⟨0,by omega,rfl,HR4.out.1,HR4.out.2.1,by simpa using HR4.out.2.2,Bw.out⟩
  case round=>
   obtain⟨j,hj,rfl,rN,rD,rE,hb⟩:=hrel;by_cases hlt:j<L
   ·have hlt':(j:Int)<L:=ak;have hjl:j<l.length:=(by rw[HL.out];exact hlt);have e1:=rE.cell hlt;simp only[Ct,if_false]at e1;have e2:=rE.free j;have n1:=rN.cell hlt;have d1:=rD.cell hlt;have⟨q1,q2,q3,q4⟩:=Ee Qz.out hjl;have⟨u1,u2,u3⟩:=Ef Qz.out HUS.out HW.out hjl;have⟨t1,t2,t3⟩:=Qu q1 q2 q4;have t4:atN (lG l j) (lN l j)<18446744073709551616:=(by unfold atN;split<;>omega);have cA:=ak_ (n:=lG l j) (d:=lN l j) ak q3;have cP:=agp (e:=uK l W j) (n:=atN (lG l j) (lN l j)) (d:=atD (lG l j) (lN l j)) ak u3 t1 t4 t2 t3;have hpw:=afZ (e:=uK l W j) ak q1 q2 q4;have HH:Hid (∀x,Z w x->Calls prog 165 #[O (IW (uK l W j) (lG l j) (lN l j))] x fun r w'=>r=.returned (O (mF l W j))/\Z x w'):=fun x hx=>by
     have:=Us (IW (uK l W j) (lG l j) (lN l j)).toNat (by have:=hpw.2;have:=hpw.1;omega) x (Tab.below hx HT.out)
     rw[JK hpw.1]at this;exact this
    rw[show jF (cl (cl (uK l W j*atD (lG l j) (lN l j)) 2147483648) (atN (lG l j) (lN l j)))=IW (uK l W j) (lG l j) (lN l j)from rfl]at cP;have HRR:Hid (∀x,Z wr x->bZ (x.setCell ⟨ub,j,none⟩ (O (mF l W j))) ub L (fun i=>if i<j+1 then mF l W i else uK l W i)):=fun x hx=>(rE.below hx).setAt (by rw[aJ ak]) (fun i _ hne=>by
     by_cases h:i<j
     ·rw[aJ h,aJ ak]
     ·rw[au h,au ak])
    have HRN:Hid (bZ wr nb L (lG l)/\bZ wr db L (lN l)):=⟨rN,rD⟩;have BO:Hid _:=hb;have hu:=HUB.out;clear rN rD rE hb q1 q2 q3 q4 u1 u2 u3 t1 t2 t3 t4 hpw hjl;generalize IW (uK l W j) (lG l j) (lN l j)=PW at *;generalize hNJ:lG l j=NJ at *;generalize hDJ:lN l j=DJ at *;generalize uK l W j=EJ at *;generalize hFJ:mF l W j=FJ at *;clear hNJ hDJ hFJ;have HS:Hid (wr.drew.cell? ⟨nb,j,none⟩=some (O NJ)/\wr.drew.cell? ⟨db,j,none⟩=some (O DJ)):=⟨n1,d1⟩;have un1:=iN hu.1;have un2:=iN hu.2.1;clear n1 d1 hu;go_upto_region 6 with fail
    go_region_held3 (fun x=>x.cell? ⟨nb,j,none⟩=some (O NJ)/\x.cell? ⟨db,j,none⟩=some (O DJ)) (first | exact HS.out | exact aqs lV lV | exact auK un1 un2 lV)
     (first
     | (go_at_call 167;refine(cA _).mono ?_;rintro e x ⟨rfl,hx⟩;have BX:Hid (Z wr x):=(aN wr).trans hx)
     | (go_at_call 166;refine(cP _).mono ?_;rintro e y ⟨rfl,hy⟩;have BY:Hid (Z wr y):=BX.out.trans (hy.mono BX.out.size))
     | (go_at_call 165;refine(HH.out _ (BO.out.trans (BY.out.mono BO.out.size))).mono ?_;rintro e z ⟨rfl,hz⟩;have BZ:Hid (Z wr z):=BY.out.trans (hz.mono BY.out.size);have y3:=aQ BZ.out e1;have y4:=jQ BZ.out e1 e2))
    all_goals
     have HR2:Hid _:=HRR.out z BZ.out
     have HN2:Hid (bZ (z.setCell ⟨ub,j,none⟩ (O FJ)) nb L (lG l)/\bZ (z.setCell ⟨ub,j,none⟩ (O FJ)) db L (lN l)):=⟨(HRN.out.1.below BZ.out).other un1,(HRN.out.2.below BZ.out).other un2⟩
     have HB2:Hid (Z w (z.setCell ⟨ub,j,none⟩ (O FJ))):=(BO.out.trans (BZ.out.mono BO.out.size)).setCell HUB.out.2.2 _
     clear HS hx hy hz e1 e2 y3 y4 cA cP
     go_wp2
     go_roundg (L - (j+1))
     case measure=>omega
     case rel=>exact⟨j+1,by omega,rfl,HN2.out.1,HN2.out.2,HR2.out,HB2.out⟩
   ·obtain rfl:j=L:=ak;have HRR:Hid (bZ wr ub j (mF l W)):=show bZ wr ub j (mF l W)from rE.congr (fun i hi=>aJ hi);have BO:Hid _:=hb;clear rE hb rN rD;go_wp2;go_ret;exact⟨fun _=>⟨ub,by rw[HL.out];rfl,HUB.out.2.2,by rw[HL.out,HWW.out];exact HRR.out⟩,fun h=>absurd Sn.out h,BO.out⟩
 ·have Sn:Hid (¬(dw l=0/\gq cf=0)):=hOK;have hvv:∀e w3,aaj w2 l e w3->∃va vb,e=.returned (.tuple #[va,vb])/\Z w2 w3:=fun e w3 h=>by
   by_cases h0:dw l=0
   ·obtain ⟨nb,db,h1,_⟩:=h.1 h0;exact⟨_,_,h1,h.2.2⟩
   ·exact ⟨_,_,h.2.1 h0,h.2.2⟩
  clear hOK;go_enter func118,ntmps118;go_wp2_with fail
  refine hsh.mono ?_;intro e w3 h;obtain⟨va,vb,rfl,hb3⟩:=hvv e w3 h;have s3':=keepW HS2.out hb3;have HB3:Hid (Z w w3):=s3'.dQ;have hef:=HEF.out w3 s3'.dQ;have hz3:=s3'.2.2.2.2.2.2.2.2.2;obtain⟨s0,s1,s2,s3,s4,s5,s6,s7,_,_⟩:=id s3';clear h hvv hsh hb3 s3';go_wp2_with fail
  refine hef.mono ?_;rintro e w4 ⟨_,h2,hb4⟩;obtain rfl:=h2 Sn.out;have Bw:Hid (Z w w4):=HB3.out.trans (hb4.mono hz3);clear h2 hef hb4 s0 s1 s2 s3 s4 s5 s6 s7 HEF hz3;go_wp2;refine wp_loop_rounds 1 ?_;rw[Fu];go_wp2;go_ret;exact⟨fun h=>absurd h Sn.out,fun _=>rfl,Bw.out⟩
end
section
open Go.RowKit Wd Tr Cg Ld
def acd {w w':ay} (h:Z w w') (r:Option Nat):w.grownBy w' r:=⟨h.os,h.tape,h.output,h.size,fun i hi _=>h.block i hi⟩
noncomputable def qQ (cf:Cf) (l:List Ac):Nat:=if dw l=0/\gq cf=0 then l.length else 0
def t_ (F:Nat) (j:Jb):Bool:=decide (j.st=1)&&(decide (0<=j.ac)&&decide (j.ac<(F:Int)))
theorem Ep {F:Nat} {j:Jb}:t_ F j=true↔j.st=1/\0<=j.ac/\j.ac<(F:Int):=by simp[t_]
noncomputable def tJ (F:Nat) (f:Nat->Int) (c:Cf) (now:Int):List Jb->Nat->List Pr
 | [],_=> []
 | j::l,k=>if t_ F j=true then⟨(k:Int),nC c now j.sb j.nd (f j.ac.toNat)⟩::tJ F f c now l (k+1)else tJ F f c now l (k+1)
section
variable {F:Nat} {f:Nat->Int} {c:Cf} {now:Int}
theorem QJ:∀(l m:List Jb) (k:Nat),tJ F f c now (l++m) k=tJ F f c now l k++tJ F f c now m (k+l.length)
 | [],m,k=>by simp[tJ]
 | j::l,m,k=>by
  simp only[mP,tJ,QJ l m (k+1),dK];grind
def alC {l:List Jb} {j:Jb} (h:l[k]?=some j) (hp:t_ F j=true):tJ F f c now (l.take (k+1)) 0=tJ F f c now (l.take k) 0++ [⟨(k:Int),nC c now j.sb j.nd (f j.ac.toNat)⟩]:=by
 grind[kT,QJ,tJ]
def aqt {l:List Jb} {j:Jb} (h:l[k]?=some j) (hp:t_ F j=false):tJ F f c now (l.take (k+1)) 0=tJ F f c now (l.take k) 0:=by
 grind[kT,QJ,tJ]
theorem Jt:∀(l:List Jb) (k:Nat),(tJ F f c now l k).length<=l.length
 | [],_=>aC _
 | j::l,k=>by
  have:=Jt l (k+1);grind[tJ]
theorem Er:∀(l:List Jb) (k:Nat) (p:Pr),p∈tJ F f c now l k->∃(i:Nat) (j:Jb),l[i]?=some j/\t_ F j=true/\p=⟨((k+i:Nat):Int),nC c now j.sb j.nd (f j.ac.toNat)⟩
 | [],_,p,h=>by simp[tJ]at h
 | j::l,k,p,h=>by
  have rest:p∈tJ F f c now l (k+1)->∃(i:Nat) (j':Jb),(j::l)[i]?=some j'/\t_ F j'=true/\p=⟨((k+i:Nat):Int),nC c now j'.sb j'.nd (f j'.ac.toNat)⟩:=fun h=>by have⟨i,j',h1,h2,h3⟩:=Er l (k+1) p h;exact⟨i+1,j',by grind,h2,by grind⟩
  simp only[tJ]at h;by_cases hp:t_ F j=true
  ·rw[aJ hp]at h;rcases lZ.1 h with h | h
   ·exact ⟨0,j,rfl,hp,by omega⟩
   grind
  grind
theorem KW:∀(l:List Jb) (k:Nat),(tJ F f c now l k).Pairwise (fun a b=>a.a<b.a)
 | [],_=>List.Pairwise.nil
 | j::l,k=>by
  simp only[tJ];split
  ·refine qH.2 ⟨fun q hq=>?_,KW l (k+1)⟩;grind[Er]
  ·exact KW l (k+1)
end
noncomputable def rT (F:Nat) (f:Nat->Int) (c:Cf) (now:Int) (l:List Jb):List Pr:=sortV (fun a b=>decide (b.b<a.b)) (tJ F f c now l 0)
def QK (p:Pr):Int:= -p.b
def axq:(fun a b:Pr=>decide (b.b<a.b))=(fun a b=>decide (QK a<QK b)):=by
 grind[QK]
def Hw (F:Nat) (f:Nat->Int) (c:Cf) (now:Int) (l:List Jb):(rT F f c now l).Pairwise (ZX QK Pr.a):=by
 grind[rT,TH,QK,KW]
theorem sQ (F:Nat) (f:Nat->Int) (c:Cf) (now:Int) (l:List Jb):(rT F f c now l).Perm (tJ F f c now l 0):=A9 _ _
structure Ai (W:ay) (g o:Nat) (j:Jb):Prop where
 j0:W.cell? ⟨g,o,none⟩=some (J j.ac)
 j1:W.cell? ⟨g,o+1,none⟩=some (J j.nd)
 j2:W.cell? ⟨g,o+2,none⟩=some (J j.lm)
 j3:W.cell? ⟨g,o+3,none⟩=some (J j.sb)
 j4:W.cell? ⟨g,o+4,none⟩=some (J j.st)
 j5:W.cell? ⟨g,o+5,none⟩=some (J j.sr)
 j6:W.cell? ⟨g,o+6,none⟩=some (J j.en)
 j7:W.cell? ⟨g,o+7,none⟩=some j.set
theorem Ai.below {W W':ay} {j:Jb} (b:Z W W') (h:Ai W g o j):Ai W' g o j:=⟨aR b h.j0,aR b h.j1,aR b h.j2,aR b h.j3,aR b h.j4,aR b h.j5,aR b h.j6,aR b h.j7⟩
def Jbs (W:ay) (g o:Nat) (l:List Jb):Prop:=∀k j,l[k]?=some j->Ai W g (o+k*8) j
theorem Jbs.below {W W':ay} {l:List Jb} (b:Z W W') (h:Jbs W g o l):Jbs W' g o l:=fun k j hj=>(h k j hj).below b
def Fcs (W:ay) (g F:Nat) (f:Nat->Int):Prop:=∀j,j<F->W.cell? ⟨g,j,none⟩=some (O (f j))
theorem Fcs.below {W W':ay} {g F:Nat} {f:Nat->Int} (b:Z W W') (h:Fcs W g F f):Fcs W' g F f:=fun j hj=>aR b (h j hj)
def uL (c:Cf) (now:Int) (av jv:Value) (hd:Int):Array Value:= #[J c.nodes,J c.queue,J c.limit,J c.age,J c.fair,J c.size,J c.period,J c.half,J now,av,jv,J hd]
def StB (W:ay) (b:Nat) (c:Cf) (now:Int) (av jv:Value) (hd:Int):Prop:=W.heap[b]?=some (.cells (uL c now av jv hd) 32 (0,0))
section
variable {W W':ay} {b:Nat} {c:Cf} {now hd:Int} {av jv:Value}
theorem StB.lt (h:StB W b c now av jv hd):b<W.heap.size:=(aS.1 (show W.heap[b]?=_ from h)).1
theorem StB.below (k:Z W W') (h:StB W b c now av jv hd):StB W' b c now av jv hd:=(k.block b h.lt).trans h
theorem StB.cell (h:StB W b c now av jv hd) {v:Value} (hv:(uL c now av jv hd)[k]?=some v):W.cell? ⟨b,k,none⟩=some v:=aj (show W.heap[b]?=_ from h) hv
end
def alD {w w':ay} {e:Ending} (h:aqr w cf l e w'):∃fo g,e=.returned (.slice fo (qQ cf l) (qQ cf l))/\(0<qQ cf l->fo=some ⟨g,0,none⟩)/\Fcs w' g (qQ cf l) (mF l (wV l (Cc cf)))/\Z w w':=by
 obtain⟨h1,h2,h3⟩:=h;by_cases hc:dw l=0/\gq cf=0
 ·grind[qQ,bZ.cell,Fcs]
 ·have hl:qQ cf l=0:=au hc;rw[hl];exact⟨none,0,h2 hc,fun h=>absurd h (Ct 0),fun j hj=>absurd hj (Nat.not_lt_zero j),h3⟩
end
end Go.Proofs.YtdhifkbbjlhcaaaGreatDoor
