import Derived.Test.YtdhifkbbjlhcaaaGreatDoorKz44
set_option maxRecDepth 20000
set_option maxHeartbeats 8000000
set_option linter.defProp false
namespace Go.Proofs.YtdhifkbbjlhcaaaGreatDoor
open Go.Proofs.Tryz
variable {lab:Nat->Nat} {s:Sv} {w:ay} {x:Nat}
section
open Go.RowKit Wd Tr Cg Ld
structure anf (x n g:Nat) (A:Array Value) (c:Cd) (w0 v:ay):Prop where
 a:v.heap[x]?=some (.cells A 100 (0,0))
 b:v.heap[n]?=some (.cells (fM c) 45 (0,0))
 r:v.heap[g]?=w0.heap[g]?
def ang (h:Cr lab w x s) (v:Kept s) (c:Cd):Calls prog 63 #[.pointer (some ⟨x,0,none⟩),.agg (fM c)] w (qU lab w x (s,Rh s c)):=by
 obtain⟨P,L,F,h,hjs,hL,hF⟩:=h;have⟨W,hW,bW,hC,hA,hz⟩:=gH w c;have l9:=h.top _ (aC _);have qW:lab (w.heap.size+1)=9:=h.top _ ak;have iX:5<=w.heap.size+1:=by have:=h.Gv;omega
 have h0:=h.below bW;have M0:Mv lab lab w W:=Mv.of_below bW;have hlen:P.ps.length=s.js.length:=by rw[← hjs,dL]
 have kI:=v.ok.many;have cj:W.cell? ⟨w.heap.size,6,none⟩=some (J c.jb):=aj hC rfl;have hhas:=DC h0 ak c.jb;have JA:W.cell? ⟨x,11,none⟩=some (.slice P.jo P.ps.length P.cap):=h0.cell rfl;have H0:Hid _:=h0;have yJ:Hid _:=M0;have HA:Hid (dB W (w.heap.size+1)):=hA;have HC:Hid _:=hC;have hxl:=h.xlt;have oz:w.heap.size+1<W.heap.size:=ak;clear h h0 M0 bW hC hA;unfold fM
 cases hj:oG s c.jb with
 | none=>
  have hb:(decide (0<=c.jb)&&decide (c.jb<=(P.ps.length:Int) - 1))=false:=by exact aeZ
  rw[hb]at hhas;have hS:Rh s c=coded 182:=by unfold Rh;rw[hj]
  rw[hS];go_enter func63,ntmps63;go_wp2_with (first
   | (go_at_call 102;refine hhas.mono ?_;rintro e w1 ⟨rfl,rfl⟩)
   | (go_at_call 30;refine(iq _ _).mono ?_;rintro e w2 ⟨rfl,b2⟩;have⟨iJ,jW,hsA⟩:=dM (dB.below HA.out b2))
   | (refine eF rfl 42 (.tmp 4) (.tmp 10) rfl (w.heap.size+1) (d9 (coded 182) aV aV aV) gM gM 42 iJ jW.out Tryz.lJ hsA Fh ?_))
  refine eD results63 rfl rfl jW.out rfl ⟨lab,_,rfl,⟨P,L,F,(H0.out.below b2).ret qW iX _,hjs,hL,hF⟩,(yJ.out.below b2).ret ak _,iw lab _ _ _⟩
 | some j=>
  have⟨hc0,hjn⟩:=LG hj;obtain⟨n,hn⟩:∃n:Nat,c.jb=n:=⟨c.jb.toNat,by omega⟩;rw[hn,gJ]at hjn;have hnl:=(bO.1 hjn).1;obtain⟨p,hp,rfl⟩:∃p,P.ps[n]?=some p/\p.v=j:=by exact ae1
  have hb:(decide (0<=c.jb)&&decide (c.jb<=(P.ps.length:Int) - 1))=true:=fE;rw[hb]at hhas;have⟨g,hjo,hg,hgl,hcl,hfz⟩:=H0.out.row.at hp;have c4:=hcl 4 _ rfl;rw[hjo]at JA;have hl':(n:Int)<P.ps.length:=ak;have hsj:=H0.out.sets p (dW hp);have hS:Rh s c={coded 0 with job:=p.v}:=by unfold Rh;rw[hj]
  have F6:Hid _:=hcl;clear hcl hfz hb hc0 c4;rw[hS];have hcp:=fun(V:ay) (b:Z W V)=>V5 (w:=V) p.v (sc:=p.sc) (hsj.kept b.size (fun j hj _=>b.block j hj)).at_ hsj.nil hsj.few;have HCP:Hid _:=hcp;have hgw:g≠w.heap.size:=fun e=>by rw[e,l9]at hg;omega
  have T0:anf x w.heap.size g _ c W.drew W.drew:=⟨H0.out.blk,HC.out,rfl⟩;have HT0:Hid _:=T0;have H0d:Hid _:=H0.out.below (aA W);have HCN:Hid (c.jb=(n:Int)):=hn;clear T0 hcp hsj hn;rw[HCN.out]at hhas cj hW ⊢;go_enter func63,ntmps63;go_upto_region 3 with(go_at_call 102;refine hhas.mono ?_;rintro e w1 ⟨rfl,rfl⟩)
  refine aG (S:=(anf x w.heap.size g (cC s P) c w1.drew)) (L:=99) aF ?_;have bG:=HT0.out;have HF:Hid (∀xx:ay,(anf x w.heap.size g (cC s P) c w1.drew) xx->xx.cell? ⟨x,11,none⟩=some (.slice (some ⟨g,0,none⟩) P.ps.length P.cap)/\xx.cell? ⟨w.heap.size,6,none⟩=some (J n)/\xx.cell? ⟨g,n*8,none⟩=some (J p.v.ac)/\_/\_/\_/\_/\_/\_/\_/\True):=fun xx bJ=>⟨(by rw[← hjo];exact aj bJ.a rfl),(by rw[← HCN.out];exact aj bJ.b rfl),fI (F6.out 0 _ rfl) bJ.r,fI (F6.out 1 _ rfl) bJ.r,fI (F6.out 2 _ rfl) bJ.r,fI (F6.out 3 _ rfl) bJ.r,fI (F6.out 4 _ rfl) bJ.r,fI (F6.out 5 _ rfl) bJ.r,fI (F6.out 6 _ rfl) bJ.r,fI (F6.out 7 _ rfl) bJ.r,trivial⟩;refine tk 0 ?_;refine tk 1 ?_;refine tk 2 ?_;refine tk 3 ?_;refine tk 4 ?_;refine tk 5 ?_;refine tk 6 ?_;refine tk 7 ?_;refine last_one (i:=8) aF rfl ?_;intro K hK;go_simp;go_at_call 51;refine(HCP.out _ (aA w1)).mono ?_;rintro e w2 ⟨u2,rfl,hrow2,b2⟩;obtain⟨ua,uc,rfl⟩:=bE hrow2;unfold BK;have⟨iJ,jW,hsA⟩:=dM (dB.below (dB.below HA.out (aA w1)) b2);have hgw1:g≠w.heap.size+1:=fun e=>by rw[e,qW]at hg;omega
  have ku:(anf x w.heap.size g (cC s P) c w1.drew) w2:=⟨(b2.block x H0d.out.xlt).trans (bG).a,(b2.block _ (by show w.heap.size<w1.heap.size;omega)).trans (bG).b,b2.block g hgl⟩
  go_simp;refine jE hK ku ?_;clear hK K bG;refine tk 9 ?_;refine last_one (i:=10) aF rfl ?_;intro K hK;rw[aJ iW];refine mW 42 (.tmp 4) (.tmp 20) rfl (w.heap.size+1) (d9 {coded 0 with job:=p.v} aV (.slice ua p.v.set.length uc) aV) gM (by simp[Act.eval,d9,coded,aV,TN,cf0]) 42 iJ jW.out Tryz.lJ hsA Fh ?_;refine hK.out _ _ (fun _=>⟨(gX _ _ x _ ak).trans (ku).a,(gX _ _ _ _ ak).trans (ku).b,(gX _ _ g _ hgw1).trans (ku).r⟩) (fun _=>?_);clear hK K;refine aO aF ?_ _;go_wp2;have hz1:w1.drew.heap.size=w1.heap.size:=rfl;obtain⟨sa,sc,e7,i7⟩:=xD (lab:=lab) hrow2 (fun g' hg'=>H0d.out.top g' (by have:=(hrow2.lt g' hg').1;omega));injection e7 with e7 _ e8;subst e7;subst e8;have i8:=og (lab':=lab) (W':=w2.setRow (w.heap.size+1) (d9 {coded 0 with job:=p.v} aV (.slice ua p.v.set.length uc) aV)) i7 (by simp[World.setRow]) (fun _ _ h=>h) (fun g' o k e=>gX _ _ g' _ (by have:=(i7.own g' o k e).2.1;omega));exact eD results63 rfl rfl jW.out rfl ⟨lab,_,rfl,⟨P,L,F,(H0d.out.below b2).ret qW iX _,hjs,hL,hF⟩,((yJ.out.below (aA w1)).below b2).ret ak _,⟨_,_,_,ua,uc,rfl,vo _ _ _,rfl,⟨i8.at_,i8.nil,i8.cap,fun g' o k e=>by have⟨a1,a2,a3,a4⟩:=i8.own g' o k e;exact⟨a1,by omega,a3,a4⟩⟩,sI _ _ _⟩⟩
def ad4 (v:Kept s):fZ s.js s.hd=oG s s.hd:=by
 have hh:=v.ok.hold;grind[holdB,fZ,oG]
def ad5 (need:Int) (o:Option Pq.Pr.Stp):∃b c,Pq.Pr.SX need o=.tuple #[J (Pq.Pr.atO o),J b,.bool c]:=by
 cases o with
 | none=>exact⟨0,false,rfl⟩
 | some t=>exact⟨_,_,rfl⟩
def Tryz.aws:(prog.info? 200).map (·.size)=some 3:=aF
section
variable {lab:Nat->Nat} {w:ay} {x:Nat} {s:Sv} {L:List A3.Ag.En} {F:Nat} {P:EM}
def Wp (h:iH lab w x s.cf s.now s.hd s.la s.js L F P) (v:Kept s) (hps:P.ps.map Pj.v=s.js) (hL:kY s.js L) (hF:kH s.cf s.js F):
  Calls prog 114 #[.pointer (some ⟨x,0,none⟩)] w fun e w'=>e=.returned (J (LC s))/\Z w w':=by
 have hfv:=V6 v hF;have kI:=v.ok.many;have hLl:=Bn hL;have hrp:=VR hL;have hhb: -9223372036854775808<=s.hd/\s.hd<=9223372036854775807:=by
  have hh:=v.ok.hold;unfold holdB at hh;simp only[Bool.or_eq_true,lW,nS]at hh;rcases hh with hh | ⟨h0,hh⟩
  ·omega
  ·cases hj:s.js[s.hd.toNat]? with
   | none=>rw[hj]at hh;cases hh
   | some j=>have:=(bO.1 hj).1;omega
 have Pg:Hid (∀(W:ay),N2.fH W P.b s.cf.nodes.toNat F->Calls prog 119 #[.pointer (some ⟨P.b,0,none⟩)] W fun e w'=>e=.returned (J (dz s))/\w'=W):=fun W hS=>by rw[← hfv];exact N2.Ey P.b s.cf.nodes.toNat F W hS
 have Pf:Hid (∀ {lab:Nat->Nat} {W:ay},iH lab W x s.cf s.now s.hd s.la s.js L F P->_):=fun {lab W} h=>V7 h hps hL kI;have aBh:Hid (∀(W:ay) (ra:Option Addr) (rc:Nat) (nd:Int),Pq.eO W ra (A3.rH (GD s.js) L)->Calls prog 158 #[J s.now,J (dz s),.slice ra L.length rc,J nd] W fun e w'=>∃b c,e=.returned (.tuple #[J (Pq.Pr.atO (Pq.Pr.aX s.now (dz s) (bT s.js) nd)),J b,.bool c])/\Z W w'):=fun W ra rc nd hR=>by
  have hl:(A3.rH (GD s.js) L).length=L.length:=by unfold A3.rH;simp
  have hq:=Pq.Ir (c:=rc) hR (by rw[hl];omega) s.now (dz s) nd
  rw[hl,Pq.Pr.Io hrp]at hq;refine hq.mono ?_;rintro e w' ⟨rfl,b⟩;have⟨b1,c1,e1⟩:=ad5 nd (Pq.Pr.aX s.now (dz s) (bT s.js) nd);exact⟨b1,c1,by rw[e1],b⟩
 have hjp:=ad4 v;have hz:=h.below (aA w);have HLK:Hid (∀V:ay,jq V P.wm s.js->(Instr.lookup 96 (.map (some P.wm)) (J s.hd) true).run prog V=.ok (.tuple #[match fZ s.js s.hd with | some j=>BU s.hd j | none=>B_,.bool (fZ s.js s.hd).isSome]) V):=fun V hV=>hV.look (vB hhb);have HZ:Hid _:=hz;have HS:Hid (LC s=match oG s s.hd with
  | none=>0
  | some j=>if j.nd<=dz s then 0 else Pq.Pr.atO (Pq.Pr.aX s.now (dz s) (bT s.js) j.nd)):=rfl
 rw[← hjp]at HS;generalize LC s=SH at HS ⊢;clear h hz v hps hL hF hfv hrp hjp hhb;obtain⟨a,b,c,k,hab,hk⟩:∃a b c k,(match fZ s.js s.hd with | some j=>BU s.hd j | none=>B_)=.agg #[J a,J b,J c]/\((fZ s.js s.hd).isSome=k/\(k=false/\SH=0\/k=true/\SH=if b<=dz s then 0 else Pq.Pr.atO (Pq.Pr.aX s.now (dz s) (bT s.js) b))):=by
  cases hp:fZ s.js s.hd with
  | none=>rw[hp]at HS;exact⟨0,0,0,false,rfl,rfl,.inl ⟨rfl,HS.out⟩⟩
  | some j=>rw[hp]at HS;exact⟨s.hd,j.nd,j.lm,true,rfl,rfl,.inr ⟨rfl,HS.out⟩⟩
 rw[hab,hk.1]at HLK;have HK2:Hid _:=hk.2;clear hab hk HS;go_enter func114,ntmps114;go_upto_region 1 with fail
 refine aG (S:=Below w.drew.heap.size w.drew) (L:=99) aF ?_;have oQ:Below w.drew.heap.size w.drew w.drew:=aI _ _;have HF:Hid (∀xx:ay,Below w.drew.heap.size w.drew xx->xx.cell? ⟨x,13,none⟩=some (.map (some P.wm))/\xx.cell? ⟨x,12,none⟩=some (J s.hd)/\(Instr.lookup 96 (.map (some P.wm)) (J s.hd) true).run prog xx=.ok (.tuple #[.agg #[J a,J b,J c],.bool k]) xx/\True):=fun xx bJ=>⟨(HZ.out.below bJ).cell rfl,(HZ.out.below bJ).cell rfl,HLK.out xx (HZ.out.below bJ).wait,trivial⟩;refine tk 0 ?_;refine tk 1 ?_;refine tk 2 ?_;refine tk 3 ?_;refine tk 4 ?_;refine tk 5 ?_;refine tk 6 ?_;refine tk 7 ?_;refine tk 8 ?_;refine tk 9 ?_;refine tk 10 ?_;refine tk 11 ?_;refine last_one (i:=12) aF rfl ?_;intro K hK;go_simp;have⟨W1,hW1⟩:=aZ ((w.alloc (.cells #[J 0,J 0,J 0] 200)).drew);try rw[hW1]
 have uW:Below w.drew.heap.size w.drew W1:=by rw[← hW1];exact(show Below w.heap.size w.drew (w.drew.alloc _)from(aI w.heap.size w.drew).alloc (show w.heap.size<=w.drew.heap.size from aC _) _)
 have F7:Hid (W1.heap[w.heap.size]?=some (.cells #[J 0,J 0,J 0] 200 (0,0))):=by rw[← hW1];exact aK w _
 have hz1:w.heap.size<W1.heap.size:=by rw[← hW1];show w.heap.size<(w.alloc _).heap.size;rw[iI];omega
 refine jE hK uW ?_;clear hK K hW1;refine last_one (i:=13) aF rfl ?_;intro K hK;rw[aJ iW];refine mW 200 (.tmp 3) (.tmp 18) rfl w.heap.size #[J a,J b,J c] gM gM 200 _ F7.out Tryz.aws rfl Ci ?_;have⟨V,hV⟩:=aZ (W1.setRow w.heap.size #[J a,J b,J c]);rw[hV];have bV:Below w.heap.size w.drew V:=by rw[← hV];exact aH.below (nE (K:=fun k=>k=w.heap.size) (aH.refl _ W1) (.inl rfl) _) uW (Nat.le_of_lt hz1) (fun i hi=>by omega)
 have HSV:Below w.drew.heap.size w.drew V:=bV;have HGV:Hid (V.heap[w.heap.size]?=some (.cells #[J a,J b,J c] 200 (0,0))):=by rw[← hV];exact xI _ _ _ _ _ _ F7.out
 have HV:Hid _:=(HZ.out.below HSV).below (aA V);have HBV:Hid (Z w V.drew):=((aA w).trans HSV).trans ((aA V).mono (bM (Nat.le_of_lt hz1) (by rw[← hV];exact(nE (K:=fun k=>k=w.heap.size) (aH.refl _ W1) (.inl rfl) _).size)));refine jE hK HSV ?_;clear hK K hV F7 uW oQ HF bV;refine tk 14 ?_;refine aO aF ?_ _;clear HSV;go_upto_region 2 with fail
 refine aG (S:=Below V.drew.heap.size V.drew) (L:=99) aF ?_;have oQ:Below V.drew.heap.size V.drew V.drew:=aI _ _;have HF:Hid (∀xx:ay,Below V.drew.heap.size V.drew xx->xx.cell? ⟨x,15,none⟩=some (.pointer (some ⟨P.b,0,none⟩))/\xx.cell? ⟨w.heap.size,1,none⟩=some (J b)/\xx.cell? ⟨x,8,none⟩=some (J s.now)/\True):=fun xx bJ=>⟨(HV.out.below bJ).cell rfl,aj ((lI bJ _ (aS.1 HGV.out).1).trans HGV.out) rfl,(HV.out.below bJ).cell rfl,trivial⟩;rcases HK2.out with⟨rfl,rfl⟩ | ⟨rfl,hSH⟩
 ·refine tk 0 ?_;refine tk 1 ?_;refine tk 2 ?_;refine sk 3 ?_;refine sk 4 ?_;refine sk 5 ?_;refine sk 6 ?_;refine sk 7 ?_;refine sk 8 ?_;refine last_one (i:=9) aF rfl ?_;intro K hK;go_simp;refine jE hK oQ ?_;clear hK K;refine sk 10 ?_;refine tk 11 ?_;refine aO aF ?_ _;clear oQ;go_wp2;go_ret;exact⟨rfl,HBV.out⟩
 ·refine tk 0 ?_;refine tk 1 ?_;refine tk 2 ?_;refine tk 3 ?_;refine tk 4 ?_;refine tk 5 ?_;refine tk 6 ?_;refine tk 7 ?_;refine tk 8 ?_;refine last_one (i:=9) aF rfl ?_;intro K hK;go_simp;go_at_call 119;refine(Pg.out _ HV.out.free).mono ?_;rintro e wz ⟨rfl,rfl⟩;go_simp;refine jE hK oQ ?_;clear hK K;refine tk 10 ?_;refine tk 11 ?_;refine aO aF ?_ _;by_cases hle:b<=dz s
  ·have dle:decide (b<=dz s)=true:=dS hle;rw[aJ hle]at hSH;subst hSH;clear oQ;go_wp2;go_ret;exact⟨rfl,HBV.out⟩
  ·have dle:decide (b<=dz s)=false:=dH hle;rw[au hle]at hSH;subst hSH;clear oQ;go_upto_region 4 with fail
   refine aG (S:=Below V.drew.heap.size V.drew) (L:=99) aF ?_;have oQ:Below V.drew.heap.size V.drew V.drew.drew:=aA V.drew;refine tk 0 ?_;refine tk 1 ?_;refine tk 2 ?_;refine tk 3 ?_;refine tk 4 ?_;refine tk 5 ?_;refine tk 6 ?_;refine tk 7 ?_;refine tk 9 ?_;refine tk 11 ?_;refine tk 12 ?_;refine last_one (i:=8) aF rfl ?_;intro K hK;go_simp;go_at_call 119;refine(Pg.out _ (HV.out.below oQ).free).mono ?_;rintro e wz ⟨rfl,rfl⟩;go_simp;refine jE hK oQ ?_;clear hK K;refine last_one (i:=10) aF rfl ?_;intro K hK;go_simp;go_at_call 159;refine(Pf.out (HV.out.below oQ)).mono ?_;rintro e w3 ⟨_,rfl,ra,rc,rfl,hra,b3⟩;have Mq:Hid _:=hra;have HS3:Below V.drew.heap.size V.drew w3:=oQ.trans (b3.mono oQ.size);clear hra b3;go_simp;refine jE hK HS3 ?_;clear hK K oQ;refine last_one (i:=13) aF rfl ?_;intro K hK;go_simp;go_at_call 158;refine(aBh.out _ ra rc b Mq.out).mono ?_;rintro e w4 ⟨b4,c4,rfl,bb4⟩;have HS4:Below V.drew.heap.size V.drew w4:=kR HS3 (jm bb4 (gN HS3));go_simp;refine jE hK HS4 ?_;clear hK K HS3;refine tk 14 ?_;refine tk 15 ?_;refine tk 16 ?_;refine tk 17 ?_;refine tk 18 ?_;refine tk 19 ?_;refine tk 20 ?_;refine aO aF ?_ _;have B4:Hid _:=HS4;clear HS4;go_wp2;go_ret;exact⟨rfl,HBV.out.trans (B4.out.mono HBV.out.size)⟩
end
end
section
open Go.RowKit Wd Tr Cg Ld
def ad6 (h:Cr lab w x s) (v:Kept s) (c:Cd):Calls prog 64 #[.pointer (some ⟨x,0,none⟩),.agg (fM c)] w (qU lab w x (s,Gr s)):=by
 obtain⟨P,L,F,h,hjs,hL,hF⟩:=h;have⟨W,hW,bW,hC,hA,hz⟩:=gH w c;have qW:lab (w.heap.size+1)=9:=h.top _ ak;have iX:5<=w.heap.size+1:=by have:=h.Gv;omega
 have HSN:Hid (∀(V:ay),Z w V->_):=fun V b=>Mk (h.below b) v.wf v.la0.1 (by have:=v.la0.2;omega)
 have HRK:Hid (∀ {V:ay} {B:Nat} {u:Value},Z w V->V.ownsRow B 58 5 u s.la.length (dP s.la)->_):=fun {V B u} b hr=>Ml (h.below b) v hjs hr;have HSH:Hid (∀(V:ay),Z w V->_):=fun V b=>Wp (h.below b) v hjs hL hF;have H0:Hid _:=h;have HB0:Hid _:=bW.trans ((aA W).mono bW.size);have HA:Hid (dB W.drew (w.heap.size+1)):=hA;have oz:w.heap.size+1<W.drew.heap.size:=hz;have hS:Gr s={coded 0 with WK:=f_ s,hold:=s.hd,IU:=LC s}:=rfl;rw[hS];clear h bW hC hA v hS;unfold fM;go_enter func64,ntmps64;go_upto_region 1 with fail
 refine aG (S:=(Z w)) (L:=99) aF ?_;have bG:=HB0.out;have HF:Hid (∀xx:ay,(Z w) xx->xx.cell? ⟨x,12,none⟩=some (J s.hd)/\True):=fun xx bJ=>⟨(H0.out.below bJ).cell rfl,trivial⟩;refine tk 0 ?_;refine tk 3 ?_;refine tk 4 ?_;refine tk 5 ?_;refine tk 6 ?_;refine tk 7 ?_;refine last_one (i:=1) aF rfl ?_;intro K hK;go_simp;go_at_call 27;refine(HSN.out _ bG).mono ?_;rintro e w1 ⟨u1,rfl,MC,b1⟩;have aHi:=gN b1;have HA1:Hid _:=dB.below HA.out b1;obtain⟨ua,uc,rfl⟩:=bE MC;unfold uL;have lH:=kR bG (jm b1 (gN bG));go_simp;refine jE hK lH ?_;clear hK K bG;refine last_one (i:=2) aF rfl ?_;intro K hK;go_simp;go_at_call 113;refine(HRK.out lH MC).mono ?_;rintro e w2 ⟨g2,rfl,hg2,hR2,b2⟩;have HA2:Hid _:=dB.below HA1.out b2;have aHj:=b2.size;have ku:=kR lH (jm b2 (gN lH));go_simp;refine jE hK ku ?_;clear hK K lH;refine last_one (i:=8) aF rfl ?_;intro K hK;go_simp;go_at_call 114;refine(HSH.out _ ku).mono ?_;rintro e w3 ⟨rfl,b3⟩;have⟨iJ,jW,hsA⟩:=dM (dB.below HA2.out b3);have aHk:=b3.size;have HR3:Hid (nO w3 g2 (f_ s)):=nO.below b3 hR2;have aHl:=nO.lt HR3.out;clear hR2;have jG:=kR ku (jm b3 (gN ku));go_simp;refine jE hK jG ?_;clear hK K ku;refine tk 9 ?_;refine last_one (i:=10) aF rfl ?_;intro K hK;rw[aJ iW];refine mW 42 (.tmp 4) (.tmp 14) rfl (w.heap.size+1) (d9 {coded 0 with WK:=f_ s,hold:=s.hd,IU:=LC s} aV aV (.slice (some ⟨g2,0,none⟩) (f_ s).length (f_ s).length)) gM (by simp[Act.eval,d9,coded,aV,TN,cf0]) 42 iJ jW.out Tryz.lJ hsA Fh ?_;refine hK.out _ _ (fun _=>aH.below (nE (K:=fun k=>k=w.heap.size+1) (aH.refl _ w3) (.inl rfl) _) jG (gN jG) (fun i hi=>by omega)) (fun _=>?_);clear hK K;refine aO aF ?_ _;go_wp2;have B3:=jG;have hR4:nO (w3.setRow (w.heap.size+1) (d9 {coded 0 with WK:=f_ s,hold:=s.hd,IU:=LC s} aV aV (.slice (some ⟨g2,0,none⟩) (f_ s).length (f_ s).length))) g2 (f_ s):=(gX _ _ g2 _ ak).trans HR3.out;have l92:=H0.out.top g2 ak;refine eD results64 rfl rfl jW.out rfl ⟨lab,_,rfl,⟨P,L,F,(H0.out.below B3).ret qW iX _,hjs,hL,hF⟩,(Mv.of_below B3).ret ak _,⟨_,_,_,none,0,rfl,vo _ _ _,rfl,jV _ _ _,⟨_,_,rfl,fun e=>(by cases e),aC _,fun g o k e=>?_⟩⟩⟩
 cases e;refine⟨l92,by omega,nO.lt hR4,rfl,fun n r hr=>?_⟩;rw[rJ];exact nO.at hR4 hr
def jlP (p:Pj):Lg.Jb:=⟨p.v.ac,p.v.nd,p.v.lm,p.v.sb,p.v.st,p.v.sr,p.v.en,p.sa,p.v.set.length,p.sc⟩
def aa4 (acc:List Int) (now:Int):∀ps:List Pj,Lg.lK acc now (ps.map jlP)=Lg.lK acc now ((ps.map Pj.v).map Ri)
 | []=>rfl
 | p::ps=>by
  simp only[nI,Lg.lK];rw[aa4 acc now ps];rfl
def ad7 {c:Cf} {now:Int} {N:Nat} (r:nJ c) {js:List Jv} (h:Eb c now N js js.length=true) (acc:List Int):0<=Lg.lK acc now (js.map Ri)/\Lg.lK acc now (js.map Ri)<=js.length*268435456:=by
 have hall:∀j∈js,0<=pI now j/\pI now j<=1048576/\1<=j.nd/\j.nd<=256:=fun j hj=>by have⟨i,hi⟩:=List.mem_iff_getElem?.1 hj;exact akJ r (Tv.1 h i (bO.1 hi).1 j hi)
 clear h;induction js with
 | nil=>grind[Lg.lK]
 | cons j js ih=>have ih:=ih fun x hx=>hall x (ny _ hx);have⟨h1,h2,h3,h4⟩:=hall j (pJ ..);simp only[nI,Lg.lK,dK];have hm:=kV (a:=j.nd) (b:=pI now j) (A:=256) (B:=1048576) ak h1 h4 h2;have e:Lg.FR acc now (Ri j)=if j.ac∈acc then j.nd*pI now j else 0:=rfl;omega
def Wq {l:List Ac} {n:Nat} (hn:n<l.length):xP (l.map aB) (n:Int)=dG l n:=by
 grind[xP,jL,dG,qw]
def ajk (l:List Nat):ints l=A3.ints (l.map fun k:Nat=>(k:Int)):=by simp[ints,A3.ints]
def ad8 (h:Cr lab w x s) (v:Kept s) (c:Cd) (hnm:c.nm.size<=maxLen):Calls prog 65 #[.pointer (some ⟨x,0,none⟩),.agg (fM c)] w (qU lab w x (s,yg s c)):=by
 obtain⟨P,L,F,h,hjs,hL,hF⟩:=h;have⟨W,hW,bW,hC,hA,hz⟩:=gH w c;have qW:lab (w.heap.size+1)=9:=h.top _ ak;have iX:5<=w.heap.size+1:=by have:=h.Gv;omega
 have h0:=(h.below bW).below (aA W);have HB0:Hid _:=bW.trans ((aA W).mono bW.size);have T0:pV x w.heap.size _ c W.drew:=⟨h0.blk,hC⟩;have hfind:=apc h0.tree hnm;rw[nP]at hfind;have hlen:P.ps.length=s.js.length:=by rw[← hjs,dL]
 have kI:=v.ok.many;have h64:=v.la0.2;have hlc:dw s.la=0/\gq s.cf=0:=⟨v.ok.load,v.Ve⟩;have awt:Hid (∀(V:ay) (ba:Option Addr) (bc:Nat) (xs:List Int),Z w V->Rw.fD V ba xs->xs.length<=64->Calls prog 116 #[.slice P.jo P.ps.length P.cap,.slice ba xs.length bc,J s.now] V fun e w'=>e=.returned (J (Lg.lK xs s.now (s.js.map Ri)))/\Z V w'):=fun V ba bc xs b hI hx=>by
  have hV:=h.below b;have hJ:Rw.ahK V P.jo (P.ps.map jlP):=by
   by_cases hp:0<P.ps.length
   ·obtain ⟨p,hp0⟩:∃p,P.ps[0]?=some p:=⟨_,aY hp⟩;obtain⟨g,hjo,_,_,_,_⟩:=hV.row.at hp0;refine⟨g,0,fun _=>hjo,fun k j hj=>?_⟩;rw[jI]at hj
    cases hk:P.ps[k]? with
    | none=>rw[hk]at hj;cases hj
    | some p=>
     rw[hk]at hj
     cases hj;obtain⟨g2,aa7,_,_,hc,_⟩:=hV.row.at hk;exact an6
   ·refine ⟨0,0,fun hl=>absurd (by simpa using hl) hp,fun k j hj=>?_⟩;rw[DV.1 (show P.ps.length=0 by omega)]at hj;simp at hj
  have hq:=Rw.amc (c:=P.cap) (c':=bc) hJ (by rw[dL];omega) hI ak s.now
  rw[dL]at hq;have hr:=ad7 v.rng v.ok.jobs xs;have e1:Rw.Dp xs s.now (P.ps.map jlP)=Lg.lK xs s.now (s.js.map Ri):=by unfold Rw.Dp;rw[aa4,hjs];unfold wrap64;omega
  rw[e1]at hq;exact hq
 have agx:Hid (∀(V:ay) (ba:Option Addr) (bc:Nat) (xs:List Int),Z w V->Rw.fD V ba xs->xs.length<=64->Calls prog 117 #[.pointer (some ⟨P.d,0,none⟩),.slice ba xs.length bc] V fun e w'=>e=.returned (O (Lr.Lg.g_ (nX s.la) xs 0))/\w'=V):=fun V ba bc xs b hI hx=>by obtain⟨u,h1,_⟩:=(h.below b).led;exact Lr.alM h1 hI ak
 have awu:Hid (∀(V:ay),Z w V->_):=fun V b=>xC (h.below b) v.wf v.la0.1 ak;have awv:Hid (∀(V:ay) (B:Nat) (ua:Option Addr) (uc:Nat),Z w V->V.ownsRow B 58 5 (.slice ua s.la.length uc) s.la.length (dP s.la)->Calls prog 118 #[.agg #[J s.cf.nodes,J s.cf.queue,J s.cf.limit,J s.cf.age,J s.cf.fair,J s.cf.size,J s.cf.period,J s.cf.half],.slice ua s.la.length uc] V fun e w'=>∃ub,e=.returned (.slice (some ⟨ub,0,none⟩) s.la.length s.la.length)/\bZ w' ub s.la.length (mF s.la (wV s.la (Cc s.cf)))/\Z V w'):=fun V B ua uc b hr=>by
  obtain⟨ao,ca,e1,hAc,_⟩:=AZ hr;injection e1 with e1 _ e3;subst e1;subst e3;have hca:s.la.length<=uc:=by exact ae5
  refine(Hu (cf:=s.cf) (c:=uc) (h.below b).rt hAc (V4 v) v.us ak hca).mono ?_;rintro e w' ⟨q1,_,q3⟩;obtain⟨ub,q4,_,q5⟩:=q1 hlc;exact⟨ub,q4,q5,q3⟩
 have H0:Hid _:=h;have HA:Hid (dB W.drew (w.heap.size+1)):=hA;have HT0:Hid _:=T0;have H0d:Hid _:=h0;have oz:w.heap.size+1<W.drew.heap.size:=hz;have hwf:=v.wf;have HBL:Hid (∀(n:Nat) (V:ay),Z w V->n<s.la.length->Calls prog 115 #[.pointer (some ⟨P.t,0,none⟩),J n] V fun e w'=>∃u,e=.returned u/\w'.ownsRow V.heap.size 3 1 u ((dG s.la n).map fun k:Nat=>(k:Int)).length (A3.ints ((dG s.la n).map fun k:Nat=>(k:Int)))/\Z V w'):=fun n V b hn=>by have hq:=aqB (h.below b).tree hwf (n:Int);rw[Wq hn,ajk]at hq;rw[dL];exact hq
 have aww:Hid (∀n,(dG s.la n).length<=64):=fun n=>by unfold dG;refine bM (SI _ _) ?_;rw[SE];exact h64
 clear h h0 T0 bW hC hA v hwf hlen hlc;unfold fM
 cases hf:bq s.la c.nm with
 | none=>
  have hS:yg s c=coded 181:=by unfold yg;rw[hf]
  rw[hS];rw[hf]at hfind;simp only[Option.getD_none,PI]at hfind;clear hf hS awt agx awu awv HBL;go_enter func65,ntmps65;go_upto_region 1 with fail
  refine aG (S:=(pV x w.heap.size (cC s P) c)) (L:=99) aF ?_;have bG:=HT0.out;have HF:Hid (∀xx:ay,(pV x w.heap.size (cC s P) c) xx->xx.cell? ⟨x,9,none⟩=some (.pointer (some ⟨P.t,0,none⟩))/\xx.cell? ⟨w.heap.size,1,none⟩=some (.string c.nm)/\True):=fun xx bJ=>⟨aj bJ.a rfl,aj bJ.b rfl,trivial⟩;refine tk 0 ?_;refine tk 1 ?_;refine tk 2 ?_;refine tk 3 ?_;refine tk 4 ?_;refine tk 5 ?_;refine last_one (i:=6) aF rfl ?_;intro K hK;go_simp;go_at_call 100;refine hfind.mono ?_;rintro e wz ⟨rfl,rfl⟩;go_simp;refine jE hK bG ?_;clear hK K;refine tk 7 ?_;refine tk 8 ?_;refine tk 9 ?_;refine tk 10 ?_;refine tk 11 ?_;refine aO aF ?_ _;clear bG;go_wp2_with (first
   | (go_at_call 30;refine(iq _ _).mono ?_;rintro e w2 ⟨rfl,b2⟩;have⟨iJ,jW,hsA⟩:=dM (dB.below HA.out b2))
   | (refine eF rfl 42 (.tmp 4) (.tmp 20) rfl (w.heap.size+1) (d9 (coded 181) aV aV aV) gM gM 42 iJ jW.out Tryz.lJ hsA Fh ?_))
  have B3:=HB0.out.trans (b2.mono HB0.out.size);exact eD results65 rfl rfl jW.out rfl ⟨lab,_,rfl,⟨P,L,F,(H0.out.below B3).ret qW iX _,hjs,hL,hF⟩,(Mv.of_below B3).ret ak _,iw lab _ _ _⟩
 | some n=>
  have hS:yg s c={coded 0 with raw:=Lg.lK ((dG s.la n).map fun k:Nat=>(k:Int)) s.now (s.js.map Ri),us:=Lr.Lg.g_ (nX s.la) ((dG s.la n).map fun k:Nat=>(k:Int)) 0,fac:=mF s.la (wV s.la (Cc s.cf)) n}:=by unfold yg;rw[hf]
  rw[hS];have hnl:=uQ hf;have at5:(n:Int)<s.la.length:=ak;rw[hf]at hfind;simp only[pW,Ck]at hfind;have HBN:=aww.out n;have hxl:((dG s.la n).map fun k:Nat=>(k:Int)).length<=64:=by rw[dL];exact HBN
  have ar6:Hid _:=HBL.out n;obtain⟨xs,hxs⟩:∃xs,((dG s.la n).map fun k:Nat=>(k:Int))=xs:=⟨_,rfl⟩;rw[hxs]at hxl ar6 ⊢;clear hf hS hxs HBL aww HBN;go_enter func65,ntmps65;go_upto_region 1 with fail
  refine aG (S:=(pV x w.heap.size (cC s P) c)) (L:=99) aF ?_;have bG:=HT0.out;have HF:Hid (∀xx:ay,(pV x w.heap.size (cC s P) c) xx->xx.cell? ⟨x,9,none⟩=some (.pointer (some ⟨P.t,0,none⟩))/\xx.cell? ⟨w.heap.size,1,none⟩=some (.string c.nm)/\True):=fun xx bJ=>⟨aj bJ.a rfl,aj bJ.b rfl,trivial⟩;refine tk 0 ?_;refine tk 1 ?_;refine tk 2 ?_;refine tk 3 ?_;refine tk 4 ?_;refine tk 5 ?_;refine last_one (i:=6) aF rfl ?_;intro K hK;go_simp;go_at_call 100;refine hfind.mono ?_;rintro e wz ⟨rfl,rfl⟩;go_simp;refine jE hK bG ?_;clear hK K;refine tk 7 ?_;refine tk 8 ?_;refine tk 9 ?_;refine tk 10 ?_;refine tk 11 ?_;refine aO aF ?_ _;clear bG;have q9:W.drew.cell? ⟨x,9,none⟩=some (.pointer (some ⟨P.t,0,none⟩)):=H0d.out.cell rfl;have hbl:=ar6.out W.drew HB0.out hnl;go_upto_region 5 with(go_at_call 115;refine hbl.mono ?_;rintro e w2 ⟨u2,rfl,hrow2,b2⟩;obtain⟨ba,bc,rfl⟩:=bE hrow2)
  have HB2:Hid _:=(HB0.out.trans (b2.mono HB0.out.size)).trans ((aA w2).mono (bM HB0.out.size b2.size));have HA2:Hid (dB w2.drew (w.heap.size+1)):=dB.below (dB.below HA.out b2) (aA w2);obtain⟨ia,ic,e2,i2⟩:=xD (lab:=fun _=>9) hrow2 (fun _ _=>rfl);injection e2 with e2 _ e3;subst e2;clear e3;have HI2:Hid (Rw.fD w2.drew ba xs):=Rw.fD.below i2.at_ (aA w2);have hz2:w.heap.size+1<w2.drew.heap.size:=gL oz b2.size;clear q9 hbl hrow2 i2 b2 ar6 hfind;refine aG (S:=(Z w)) (L:=99) aF ?_;have bG:=HB2.out;have HF:Hid (∀xx:ay,(Z w) xx->xx.cell? ⟨x,0,none⟩=some (J s.cf.nodes)/\xx.cell? ⟨x,1,none⟩=some (J s.cf.queue)/\xx.cell? ⟨x,2,none⟩=some (J s.cf.limit)/\xx.cell? ⟨x,3,none⟩=some (J s.cf.age)/\xx.cell? ⟨x,4,none⟩=some (J s.cf.fair)/\xx.cell? ⟨x,5,none⟩=some (J s.cf.size)/\xx.cell? ⟨x,6,none⟩=some (J s.cf.period)/\xx.cell? ⟨x,7,none⟩=some (J s.cf.half)/\xx.cell? ⟨x,8,none⟩=some (J s.now)/\xx.cell? ⟨x,10,none⟩=some (.pointer (some ⟨P.d,0,none⟩))/\xx.cell? ⟨x,11,none⟩=some (.slice P.jo P.ps.length P.cap)/\True):=fun xx bJ=>⟨(H0.out.below bJ).cell rfl,(H0.out.below bJ).cell rfl,(H0.out.below bJ).cell rfl,(H0.out.below bJ).cell rfl,(H0.out.below bJ).cell rfl,(H0.out.below bJ).cell rfl,(H0.out.below bJ).cell rfl,(H0.out.below bJ).cell rfl,(H0.out.below bJ).cell rfl,(H0.out.below bJ).cell rfl,(H0.out.below bJ).cell rfl,trivial⟩;refine tk 0 ?_;refine tk 1 ?_;refine tk 2 ?_;refine tk 3 ?_;refine tk 4 ?_;refine tk 5 ?_;refine tk 6 ?_;refine tk 7 ?_;refine tk 8 ?_;refine tk 10 ?_;refine tk 11 ?_;refine tk 12 ?_;refine tk 13 ?_;refine tk 14 ?_;refine tk 15 ?_;refine tk 16 ?_;refine tk 18 ?_;refine tk 19 ?_;refine tk 20 ?_;refine tk 21 ?_;refine tk 22 ?_;refine tk 25 ?_;refine last_one (i:=9) aF rfl ?_;intro K hK;go_simp;go_at_call 116;refine(awt.out _ ba bc xs bG HI2.out hxl).mono ?_;rintro e w3 ⟨rfl,b3⟩;have HI3:Hid _:=Rw.fD.below HI2.out b3;have HA3:Hid _:=dB.below HA2.out b3;have jG:=kR bG (jm b3 (gN bG));go_simp;refine jE hK jG ?_;clear hK K bG;refine last_one (i:=17) aF rfl ?_;intro K hK;go_simp;go_at_call 117;refine(agx.out _ ba bc xs jG HI3.out hxl).mono ?_;rintro e wz ⟨rfl,rfl⟩;go_simp;refine jE hK jG ?_;clear hK K;refine last_one (i:=23) aF rfl ?_;intro K hK;go_simp;go_at_call 50;refine(awu.out _ jG).mono ?_;rintro e w4 ⟨u4,rfl,hrow4,b4⟩;obtain⟨ua,uc,rfl⟩:=bE hrow4;have HA4:Hid _:=dB.below HA3.out b4;have yN:=kR jG (jm b4 (gN jG));go_simp;refine jE hK yN ?_;clear hK K jG;refine last_one (i:=24) aF rfl ?_;intro K hK;go_simp;go_at_call 118;refine(awv.out _ _ ua uc yN hrow4).mono ?_;rintro e w5 ⟨ub,rfl,hRF,b5⟩;have HRF:Hid _:=hRF;have⟨iJ,jW,hsA⟩:=dM (dB.below HA4.out b5);clear hRF;have nR:=kR yN (jm b5 (gN yN));go_simp;refine jE hK nR ?_;clear hK K yN;refine tk 26 ?_;refine last_one (i:=27) aF rfl ?_;intro K hK;have kf:=bZ.cell HRF.out hnl;go_simp;refine jE hK nR ?_;clear hK K kf;refine tk 28 ?_;refine last_one (i:=29) aF rfl ?_;intro K hK;rw[aJ iW];refine mW 42 (.tmp 4) (.tmp 55) rfl (w.heap.size+1) (d9 {coded 0 with raw:=Lg.lK xs s.now (s.js.map Ri),us:=Lr.Lg.g_ (nX s.la) xs 0,fac:=mF s.la (wV s.la (Cc s.cf)) n} aV aV aV) gM (by simp[Act.eval,d9,coded,aV,TN,cf0]) 42 iJ jW.out Tryz.lJ hsA Fh ?_;refine hK.out _ _ (fun _=>aH.below (nE (K:=fun k=>k=w.heap.size+1) (aH.refl _ w5) (.inl rfl) _) nR (gN nR) (fun i hi=>by omega)) (fun _=>?_);clear hK K;refine aO aF ?_ _;have B3:=nR;go_wp2;exact eD results65 rfl rfl jW.out rfl ⟨lab,_,rfl,⟨P,L,F,(H0.out.below B3).ret qW iX _,hjs,hL,hF⟩,(Mv.of_below B3).ret ak _,⟨_,_,_,none,0,rfl,vo _ _ _,rfl,jV _ _ _,sI _ _ _⟩⟩
def ad9 {c:Cf} {now hd:Int} {la:List Ac} {jw:List Jv} {L:List A3.Ag.En} {F:Nat} {P:EM} (h:iH lab w x c now hd la jw L F P) (hp0:gU jw=0):
  Calls prog 149 #[.pointer (some ⟨x,0,none⟩)] w fun e w'=>e=.returned (.slice none 0 0)/\w'=w:=by
 have x13:w.cell? ⟨x,13,none⟩=some (.map (some P.wm)):=h.cell rfl;have hln:=h.wait.len (ty:=3);rw[hp0]at hln;clear h;go_enter func149,ntmps149;exact mY
def ad_ (h:Cr lab w x s) (v:Kept s) (ha:I5 s):
  Calls prog 149 #[.pointer (some ⟨x,0,none⟩)] w fun e w'=>∃u,e=.returned u/\∃uN:List Pe,uN.map Pe.v=Im s/\∃lab',Cr lab' w' x (fq s)/\Mv lab lab' w w'/\yu lab' w.heap.size w' u uN:=by
 obtain⟨P,L,F,h,hps,hL,hF⟩:=h;unfold Im fq;by_cases h0:gU s.js=0
 ·rw[aJ h0,aJ h0];refine(ad9 h h0).mono ?_;rintro e w' ⟨rfl,rfl⟩;exact⟨_,rfl,[],rfl,lab,⟨P,L,F,h,hps,hL,hF⟩,Mv.refl _ _,Ry _ _ _⟩
 ·rw[au h0,au h0];exact adW h v ha hps hL hF h0
def Fb {B:Nat} {W:ay} {u:Value} {es:List Hg} (h:Ru lab B W u es):∃ao cap qs,u=.slice ao qs.length cap/\qs.map Pe.v=es/\(ao=none->qs.length=0/\cap=0)/\(∀ad,ao=some ad->∀j x,(iE qs)[j]?=some x->W.cell? (ad.add j)=some x)/\∀p∈qs,DF lab B W p.sa p.sc p.v.ls:=by
 obtain⟨ao,cap,qs,e1,e2,e3,e4,e5,e6⟩:=h;refine⟨ao,cap,qs,e1,e2,fun e=>by grind,aiH ?_,e6⟩;grind
def RV {amW lab:Nat->Nat} {w V W':ay} {v v':Value} {ps qs:List Pe} {B':Nat} (M:Mv amW lab w V) (E:yu lab w.heap.size V v ps) (hB:w.heap.size<=B') (hv:∀g,v.ownBlock=some g->g<B') (hq:∀p∈qs,DF lab B' V p.sa p.sc p.v.ls) (htop:lab V.heap.size=9) (h5:5<=w.heap.size) (hrow:W'.ownsRow w.heap.size 65 6 v' (ps.length+qs.length) (iE ps++iE qs)) (hgr:V.grownBy W' v.ownBlock) (hat:v'.ownBlock=v.ownBlock\/v'.ownBlock=some V.heap.size):
  (∀k,v.ownBlock=some k->lab k=9/\5<=k)/\Mv amW lab w W'/\yu lab w.heap.size W' v' (ps++qs):=
 ⟨fun k hk=>⟨E.l9 k hk,bM h5 (E.lt hk).1⟩,M.grown hgr (fun _ hk=>(E.lt hk).1),E.app hB hv hq htop hrow hgr hat⟩
theorem Cr.grown {W W':ay} (h:Cr lab W x s) {row:Option Nat} (g:W.grownBy W' row) (hr:∀k,row=some k->lab k=9/\5<=k):Cr lab W' x s:=by
 grind[iH.grown,Cr]
theorem Cr.top {W:ay} (h:Cr lab W x s):∀k,W.heap.size<=k->lab k=9:=by
 grind[iH.top,Cr]
theorem Ws (now:Int) (js:List Jv):(qo now js).length<=js.length:=xB _ _ _
theorem Po (v:Kept s) (ha:I5 s):(Im s).length<=300:=by
 unfold Im;split
 ·simp
 ·have h1:(bQ s).st.length<=256:=by
   refine bM (Me (fun j hj=>?_) (v.fits ha)) ?_
   ·have⟨n,hn⟩:=kS hj;exact(v.ok.head hn).2.2.1
   ·have:=v.ok.mH;have:=v.rng.n1;omega
  grind[yw]
theorem GI (v:Kept s):I5 (o_ (kE s)):=fun j hj=>by
 obtain⟨_,e1,e2,_⟩:=wZ (kE s);rw[e1];rw[e2]at hj;exact Gs v j hj
def aea (v:Kept s) (hn:s.now+1<=1099511627776):(qR s).length<=4500:=by
 grind[qR,Ws,Kept.ok,jk.many,Po,Az,Ar,GI,ahV]
def ajl (h:Cr lab w x s) (v:Kept s) (hn:s.now+1<=1099511627776):
  Calls prog 107 #[.pointer (some ⟨x,0,none⟩)] w fun e w'=>∃u,e=.returned u/\∃uN:List Pe,uN.map Pe.v=qR s/\∃lab',Cr lab' w' x (iD s)/\Mv lab lab' w w'/\yu lab' w.heap.size w' u uN:=by
 obtain⟨P,L,F,h,hps,hL,hF⟩:=h;have hlen:P.ps.length=s.js.length:=by rw[← hps,dL]
 have kI:=v.ok.many;have hr1:=v.rng.n1;have hr2:=v.rng.p0;have hr3:=v.rng.p1;have hn0:=v.ok.n0;have x8:w.cell? ⟨x,8,none⟩=some (J s.now):=h.cell rfl;have f8:w.frozen? ⟨x,8,none⟩=false:=aD h.blk;have kw:IntKind.i64.wrap (s.now+1)=s.now+1:=by rw[fO];omega
 have⟨W1,hW1⟩:=aZ (w.setCell ⟨x,8,none⟩ (J (s.now+1)));have h1:=hW1▸h.field (q:=8) (v:=J (s.now+1)) (now':=s.now+1) (hd':=s.hd) rfl;have M1:=hW1▸vZ (q:=8) (v:=J (s.now+1)) h.lx;have hz1:W1.heap.size=w.heap.size:=by rw[← hW1,vV]
 have x8':W1.cell? ⟨x,8,none⟩=some (J (s.now+1)):=h1.cell rfl;have⟨W2,hW2⟩:=aZ (W1.alloc (.cells #[J 6,J 0,J (s.now+1),J 0,J 0,.slice none 0 0] 65));have b2:Z W1 W2:=by rw[← hW2];exact dY
 have hG2:W2.heap[W1.heap.size]?=some (.cells (yX ⟨6,0,s.now+1,0,0,[]⟩ aV) 65 (0,0)):=by rw[← hW2];exact aK W1 _
 have hE2:yu lab w.heap.size W2 (.slice (some ⟨W1.heap.size,0,none⟩) 1 1) [⟨⟨6,0,s.now+1,0,0,[]⟩,none,0⟩]:=amI hG2 (h1.top _ (aC _)) ak rfl;have h2:=h1.below b2;have M2:=M1.below b2;obtain⟨ps0,anh⟩:∃ps0:List Pe,[(⟨⟨6,0,s.now+1,0,0,[]⟩,none,0⟩:Pe)]=ps0:=⟨_,rfl⟩;rw[anh]at hE2;have HP0:Hid (ps0.map Pe.v= [⟨6,0,s.now+1,0,0,[]⟩]):=by show ps0.map Pe.v=_;rw[← anh];rfl
 have ar7:Hid (ps0.length=1):=by show ps0.length=1;rw[← anh];rfl
 clear anh;have hch:=Mh h2 (by rw[hps];exact hL) (by rw[hlen];exact kI) ak;rw[hps]at hch;have vA:=Ar v hn;have hdr:=aiR hL (s.now+1);have hfz:Word (Ev s.cf):=Gb _;have HP:Hid (∀ {lab:Nat->Nat} {W:ay},Cr lab W x (o_ (kE s))->_):=fun {lab W} hc=>ad_ hc (Az vA) (GI v);have hPl:=Po (Az vA) (GI v);have hDl:=Ws (s.now+1) s.js;have⟨i0,hi0,hi1,hi2,hi3⟩:=fA Tryz.aiG;have HK:Hid (∀ {lab:Nat->Nat} {W:ay} {la:List Ac},iH lab W x s.cf (s.now+1) s.hd la s.js L F P->_):=fun {lab W la} hc=>aiT hc v hps hL hF;have HFD:Hid (∀ {lab:Nat->Nat} {W:ay} {la:List Ac} {jw:List Jv} {L:List A3.Ag.En} {F:Nat} {P:EM},iH lab W x s.cf (s.now+1) s.hd la jw L F P->_):=fun {lab W la jw L F P} hc=>adS hc ak ak ak hfz;have HDR:Hid _:=hdr;have HE2:Hid _:=hE2;have vS:Hid _:=M2;have hg5:5<=w.heap.size:=h.Gv;have hwl:=M2.fF.size;have HT:Hid (qR s=⟨6,0,s.now+1,0,0,[]⟩::((qo (s.now+1) s.js).map (fun n=>gV n 4 (s.now+1))++(O9 s.cf (s.now+1)++Im (o_ (kE s))))):=rfl;have HS:Hid (iD s=fq (o_ (kE s))):=rfl;have HFS:Hid (∀ {lab:Nat->Nat} {W:ay} {F':Nat} {P':EM},iH lab W x s.cf (s.now+1) s.hd (VW s.cf (s.now+1) (mE s.la (gu s.cf.nodes s.js (Qp s.js) (nX s.la)))) (mQ (s.now+1) (qo (s.now+1) s.js) s.js) (A3.Ag.mR (s.now+1) L) F' P'->P'.ps.map Pj.v=mQ (s.now+1) (qo (s.now+1) s.js) s.js->kH s.cf (mQ (s.now+1) (qo (s.now+1) s.js) s.js) F'->Cr lab W x (o_ (kE s))):=fun {lab W F' P'} c1 c2 c3=>by
  obtain⟨e0,e1,e2,e3,_⟩:=wZ (kE s);have e4:(o_ (kE s)).la=VW s.cf (s.now+1) (mE s.la (gu s.cf.nodes s.js (Qp s.js) (nX s.la))):=by unfold o_ VW kE;simp only;split<;>rfl
  refine⟨P',A3.Ag.mR (s.now+1) L,F',?_,?_,?_,?_⟩
  ·rw[e0,e1,e2,e3,e4];exact c1
  ·rw[e2];exact c2
  ·rw[e2];exact hdr
  ·rw[e0,e2];exact c3
 generalize qR s=TE at HT ⊢;generalize iD s=TS at HS ⊢;have hfl:(O9 s.cf (s.now+1)).length<=1:=by unfold O9;split<;>simp
 clear h h1 h2 M1 M2 hE2 b2 hG2 hps hL hF v vA hdr;go_enter func107,ntmps107;go_upto_region 4 with(go_at_call 146;refine hch.mono ?_;rintro e w3 ⟨rfl,xw,h3,M3⟩)
 have apE:=HK.out h3;have HE3:Hid _:=HE2.out.mv M3;have yK:Hid _:=vS.out.trans M3;have hz3:=yK.out.fF.size;clear h3 M3 hch HE2 vS HK x8 x8' f8;go_upto_region 5 with(first
  | (go_at_call 147;refine apE.mono ?_;rintro e w4 ⟨u4,rfl,qs0,hq0,J3,F4,P4,h4,awx,hF4,M4,hE4⟩;obtain⟨ka,kc,qsk,rfl,hqk,hnk,hck,hik⟩:=Fb hE4.out;have HEk:Hid _:=HE3.out.mv M4;have HNk:Hid _:=hnk;have ani:Hid _:=hck;have HQk:Hid _:=hqk.trans hq0;have Wv:Hid (qsk.length<=4096):=(by have:=aP List.length HQk.out;simp at this;show qsk.length<=4096;omega);have HZk:Hid (w3.heap.size<=w4.heap.size):=M4.fF.size;have HIk:Hid _:=hik;have H4:Hid _:=h4;have aBl:Hid _:=awx;have HF4:Hid _:=hF4;have HM4:Hid _:=yK.out.trans M4;clear h4 awx hF4 M4 hE4 hnk hck hqk hik hq0)
  | (at_builtin;refine jD rfl (.tmp 19) (.tmp 21) 35 rfl w.heap.size 65 i0 _ 6 64 underlying35 hi0 hi1 hi2 hi3 rfl aT (.slice (some ⟨W1.heap.size,0,none⟩) 1 1) ps0.length (iE ps0) gM HEk.out.row ka qsk.length kc (iE qsk) gM HNk.out (sU _) ani.out (qD _) (by have:=Wv.out;have:=ar7.out;unfold maxLen;omega) (by have:=Wv.out;have:=ar7.out;omega) (by have:=HZk.out;omega) ?_;intro vk wk ajm ar8 awz;obtain⟨eka,ekc,rfl⟩:=bE ajm))
 obtain⟨hr5,M5,E5⟩:=RV HM4.out HEk.out hz3 (fun g hg=>(yu.lt HE3.out hg).2) HIk.out (H4.out.top _ (aC _)) hg5 ajm ar8 awz;have h5:=H4.out.grown ar8 hr5;have aaV:=HFD.out h5;have⟨ps5,anj⟩:=aZ (ps0++qsk);rw[anj]at E5;have HP5:Hid (ps5.map Pe.v= [⟨6,0,s.now+1,0,0,[]⟩]++(qo (s.now+1) s.js).map (fun n=>gV n 4 (s.now+1))):=by show ps5.map Pe.v=_;rw[← anj,p9,HP0.out,HQk.out]
 have aHt:ps5.length<=4097:=by have:=Wv.out;have:=ar7.out;rw[← anj,tC];omega
 clear anj;have HE5:Hid _:=E5;have IZ:Hid _:=M5;have hzk:=M5.fF.size;have hql:=Wv.out;clear hr5 M5 E5 h5 ajm ar8 awz HEk HNk ani HIk HM4 H4 apE HE3 yK;go_upto_region 6 with(first
  | (go_at_call 148;refine aaV.mono ?_;rintro e w6 ⟨u6,rfl,arw,h6,M6,hE6⟩;obtain⟨fa,fc,qsf,rfl,hqf,hnf,hcf,hif⟩:=Fb hE6;have HEf:Hid _:=HE5.out.mv M6;have HNf:Hid _:=hnf;have awC:Hid _:=hcf;have HQf:Hid _:=hqf;have ank:Hid (qsf.length<=1):=(by have:=aP List.length hqf;simp at this;show qsf.length<=1;omega);have HZf:Hid (wk.heap.size<=w6.heap.size):=M6.fF.size;have HIf:Hid _:=hif;have H6:Hid _:=h6;have Ni:Hid _:=IZ.out.trans M6;clear h6 M6 hE6 hnf hcf hqf hif)
  | (at_builtin;refine jD rfl (.tmp 23) (.tmp 25) 35 rfl w.heap.size 65 i0 _ 6 64 underlying35 hi0 hi1 hi2 hi3 rfl aT (.slice eka (ps0.length+qsk.length) ekc) ps5.length (iE ps5) gM HEf.out.row fa qsf.length fc (iE qsf) gM HNf.out (sU _) awC.out (qD _) (by have:=ank.out;unfold maxLen;omega) (by have:=ank.out;omega) (by have:=HZf.out;omega) ?_;intro vf wf ajn ar_ awD;obtain⟨efa,efc,rfl⟩:=bE ajn))
 obtain⟨hr7,M7,E7⟩:=RV Ni.out HEf.out hzk (fun g hg=>(yu.lt HE5.out hg).2) HIf.out (H6.out.top _ (aC _)) hg5 ajn ar_ awD;have h7:=H6.out.grown ar_ hr7;have awE:=HP.out (HFS.out h7 aBl.out HF4.out);have⟨ps7,anl⟩:=aZ (ps5++qsf);rw[anl]at E7;have HP7:Hid (ps7.map Pe.v= [⟨6,0,s.now+1,0,0,[]⟩]++(qo (s.now+1) s.js).map (fun n=>gV n 4 (s.now+1))++O9 s.cf (s.now+1)):=by show ps7.map Pe.v=_;rw[← anl,p9,HP5.out,HQf.out]
 have aHB:ps7.length<=4098:=by have:=ank.out;rw[← anl,tC];omega
 clear anl;have HE7:Hid _:=E7;have HM7:Hid _:=M7;have hzf:=M7.fF.size;have aHD:=ank.out;clear hr7 M7 E7 h7 ajn ar_ awD HEf HNf awC HIf Ni H6 aaV HE5 IZ;go_wp2_with (first
  | (go_at_call 149;refine awE.mono ?_;rintro e w8 ⟨u8,rfl,qs8,hq8,aBo,h8,M8,hE8⟩;obtain⟨pa,pc,qsp,rfl,hqp,hnp,hcp,hip⟩:=Fb hE8.out;have HEp:Hid _:=HE7.out.mv M8;have HNp:Hid _:=hnp;have aBp:Hid _:=hcp;have HQp:Hid _:=hqp.trans hq8;have awG:Hid (qsp.length<=300):=(by have:=aP List.length HQp.out;simp at this;show qsp.length<=300;omega);have HZp:Hid (wf.heap.size<=w8.heap.size):=M8.fF.size;have HIp:Hid _:=hip;have H8:Hid _:=h8;have HM8:Hid _:=HM7.out.trans M8;clear h8 M8 hE8 hnp hcp hqp hip hq8)
  | (at_builtin;refine jD rfl (.tmp 27) (.tmp 29) 35 rfl w.heap.size 65 i0 _ 6 64 underlying35 hi0 hi1 hi2 hi3 rfl aT (.slice efa (ps5.length+qsf.length) efc) ps7.length (iE ps7) gM HEp.out.row pa qsp.length pc (iE qsp) gM HNp.out (sU _) aBp.out (qD _) (by have:=awG.out;unfold maxLen;omega) (by have:=awG.out;omega) (by have:=HZp.out;omega) ?_;intro vp wp ajo asa awH;obtain⟨epa,epc,rfl⟩:=bE ajo))
 obtain⟨hr9,M9,E9⟩:=RV HM8.out HEp.out hzf (fun g hg=>(yu.lt HE7.out hg).2) HIp.out (Cr.top H8.out _ (aC _)) hg5 ajo asa awH;have h9:=Cr.grown H8.out asa hr9;have H9:Hid _:=h9;have HM9:Hid _:=M9;have HE9:Hid _:=E9;clear h9 M9 E9 ajo asa awH;go_ret;refine⟨_,rfl,_,?_,aBo,by rw[HS.out];exact H9.out,HM9.out,HE9.out⟩;rw[HT.out,p9,HP7.out,HQp.out,Cq,Cq];rfl
def MF:∀(k:Nat) (s:Sv),iA (k+1) s=iD (iA k s)
 | 0,_=>rfl
 | k+1,s=>by
  show iA (k+1) (iD s)=iD (iA k (iD s));exact MF k _
def IC:∀(k:Nat) (s:Sv),pz (k+1) s=pz k s++qR (iA k s)
 | 0,s=>by
  grind[pz,iA]
 | k+1,s=>by
  show qR s++pz (k+1) (iD s)=(qR s++pz k (iD s))++qR (iA k (iD s))
  rw[IC k,Cq]
def GJ:∀(k:Nat) (s:Sv),(iA k s).now=s.now+k
 | 0,s=>by grind[iA]
 | k+1,s=>by
  show (iA k (iD s)).now=_;rw[GJ k,(w_ s).1];omega
def aeb (h:Cr lab w x s) (v:Kept s) (c:Cd):Calls prog 58 #[.pointer (some ⟨x,0,none⟩),.agg (fM c)] w (qU lab w x (nQ s c)):=by
 obtain⟨P,L,F,h,hjs,hL,hF⟩:=h;have⟨W,hW,bW,hC,hA,hz⟩:=gH w c;have l9:=h.top _ (aC _);have qW:lab (w.heap.size+1)=9:=h.top _ ak;have iX:5<=w.heap.size+1:=by have:=h.Gv;omega
 have h0:=h.below bW;have M0:Mv lab lab w W:=Mv.of_below bW;have hn0:=v.ok.n0;have hn1:=v.ok.n1;have cj:W.cell? ⟨w.heap.size,7,none⟩=some (J c.tk):=aj hC rfl;have x8:W.cell? ⟨x,8,none⟩=some (J s.now):=h0.cell rfl;have IE:=yj 1 256 c.tk W;have H0:Hid _:=h0;have yJ:Hid _:=M0;have HA:Hid (dB W (w.heap.size+1)):=hA;have HC:Hid _:=hC;have oz:w.heap.size+1<W.heap.size:=ak;clear h h0 M0 bW hC hA;unfold fM;by_cases h1:1<=c.tk/\c.tk<=256
 ·have hb:(decide (1<=c.tk)&&decide (c.tk<=256))=true:=by simp;exact h1
  rw[hb]at IE;have kw:IntKind.i64.wrap (s.now+c.tk)=s.now+c.tk:=by rw[fO];omega
  by_cases h2:1099511627776<s.now+c.tk
  ·have hS:nQ s c=(s,coded 180):=by unfold nQ;rw[au (fun h=>h h1),aJ h2]
   have d2:=dS h2;rw[hS];go_enter func58,ntmps58;go_upto_region 3 with(go_at_call 106;refine IE.mono ?_;rintro e w1 ⟨rfl,rfl⟩)
   go_quiet (fail)
   have bV:=n_ w1 nq;have HV:Hid _:=H0.out.below bV;have QZ:Hid _:=yJ.out.below bV;have AV:Hid _:=dB.below HA.out bV;clear H0 yJ HA HC IE x8 cj bV hW;go_wp2_with (first
    | (go_at_call 30;refine(iq _ _).mono ?_;rintro e w2 ⟨rfl,b2⟩;have⟨iJ,jW,hsA⟩:=dM (dB.below AV.out b2))
    | (refine eF rfl 42 (.tmp 4) (.tmp 19) rfl (w.heap.size+1) (d9 (coded 180) aV aV aV) gM gM 42 iJ jW.out Tryz.lJ hsA Fh ?_))
   exact eD results58 rfl rfl jW.out rfl ⟨lab,_,rfl,⟨P,L,F,(HV.out.below b2).ret qW iX _,hjs,hL,hF⟩,(QZ.out.below b2).ret ak _,iw lab _ _ _⟩
  ·have hS:nQ s c=(iA c.tk.toNat s,told (pz c.tk.toNat s)):=by unfold nQ;rw[au (fun h=>h h1),au h2]
   rw[hS];obtain⟨M,hM⟩:∃M:Nat,c.tk=(M:Int):=⟨c.tk.toNat,by omega⟩;rw[hM,gJ];rw[hM]at IE cj hW kw h2 h1;have d2:=dH h2;have Y2:Hid (∀k:Nat,k<M->∀ {lab:Nat->Nat} {W:ay},Cr lab W x (iA k s)->_):=fun k hk {lab W} hc=>ajl hc (Bl k v ak) (by rw[GJ];omega);have HTL:Hid (∀k:Nat,k<M->(qR (iA k s)).length<=4500):=fun k hk=>aea (Bl k v ak) (by rw[GJ];omega);have hM2:M<=256:=ak;go_enter func58,ntmps58;go_upto_region 3 with(go_at_call 106;refine IE.mono ?_;rintro e w1 ⟨rfl,rfl⟩)
   go_quiet (fail)
   have bV:=n_ w1 nq;have hCr:Cr lab (w1.drewN nq) x s:=⟨P,L,F,H0.out.below bV,hjs,hL,hF⟩;have HCR:Hid _:=hCr;have QZ:Hid _:=yJ.out.below bV;have AV:Hid (dB (w1.drewN nq) (w.heap.size+1)):=dB.below HA.out bV;have O8:w.heap.size+1<(w1.drewN nq).heap.size:=oz;have cjV:(w1.drewN nq).cell? ⟨w.heap.size,7,none⟩=some (J M):=cj;have aBq:=hjs;clear hCr H0 yJ HA HC IE x8 cj bV hW hjs aBq hL hF v;generalize w1.drewN nq=V at HCR QZ AV O8 cjV ⊢;have⟨i0,hi0,hi1,hi2,hi3⟩:=fA Tryz.aiG;go_wp2;go_loopg [5,22] M (fun gk ev p wr=>∃(k:Nat),k+gk=M/\p=J k/\∃lab' uN,Cr lab' wr x (iA k s)/\Mv lab lab' V wr/\yu lab' V.heap.size wr ev uN/\uN.map Pe.v=pz k s/\uN.length<=k*4500)
   case atStart=>exact⟨0,by omega,rfl,lab,[],HCR.out,Mv.refl _ _,Ry _ _ _,rfl,by simp⟩
   case round=>
    obtain⟨k,hk,rfl,oh,uN,hc2,M2,hE2,hev,hel⟩:=hrel;by_cases hlt:k<M
    ·have hlt':(k:Int)<M:=ak;have apF:=Y2.out k hlt hc2;have htl:=HTL.out k hlt;obtain⟨ea,ec,rfl⟩:=bE hE2.row;have HE2:Hid _:=hE2;have vS:Hid _:=M2;have HEV:Hid _:=hev;have hwz:=M2.fF.size;clear hc2 hE2 M2 hev;go_wp2_with (first
      | (go_at_call 107;refine apF.mono ?_;rintro e w3 ⟨u3,rfl,qs0,hq0,xw,h3,M3,hE3⟩;obtain⟨ka,kc,qs,rfl,hqk,hnk,hck,hik⟩:=Fb hE3.out;have HEk:Hid _:=HE2.out.mv M3;have HNk:Hid _:=hnk;have ani:Hid _:=hck;have HQk:Hid _:=hqk.trans hq0;have Wv:Hid (qs.length<=4500):=(by have:=aP List.length HQk.out;simp at this;show qs.length<=4500;omega);have HZk:Hid (wr.heap.size<=w3.heap.size):=M3.fF.size;have HIk:Hid _:=hik;have H3:Hid _:=h3;have yK:Hid _:=vS.out.trans M3;clear h3 M3 hE3 hnk hck hqk hik hq0)
      | (at_builtin;refine jD rfl (.tmp 24) (.tmp 26) 35 rfl V.heap.size 65 i0 _ 6 64 underlying35 hi0 hi1 hi2 hi3 rfl aT (.slice ea uN.length ec) uN.length (iE uN) gM HEk.out.row ka qs.length kc (iE qs) gM HNk.out (sU _) ani.out (qD _) (by have:=Wv.out;unfold maxLen;omega) (by have:=Wv.out;omega) (by have:=HZk.out;omega) ?_;intro v4 w4 hrow4 RI ai3;obtain⟨ea4,ec4,rfl⟩:=bE hrow4))
     obtain⟨hr5,M5,E5⟩:=RV yK.out HEk.out hwz (fun g hg=>(yu.lt HE2.out hg).2) HIk.out (Cr.top H3.out _ (aC _)) ak hrow4 RI ai3;have h5:=Cr.grown H3.out RI hr5;have H5:Hid _:=h5;have IZ:Hid _:=M5;have HE5:Hid _:=E5;have hql:=Wv.out;clear h5 M5 E5 hrow4 RI ai3 apF;go_wp2;go_roundg (M - (k+1))
     case measure=>omega
     case rel=>
      refine⟨k+1,by omega,by go_num,xw,_,by rw[MF];exact H5.out,IZ.out,HE5.out,?_,?_⟩
      ·rw[p9,HEV.out,HQk.out,IC]
      ·rw[tC];omega
    ·have hlt':¬(k:Int)<M:=ak;obtain rfl:k=M:=ak;obtain⟨ea,ec,rfl⟩:=bE hE2.row;have⟨iJ,jW,hsA⟩:=dM (M2.Y4 AV.out qW);have l92:=(M2.old _ O8).trans qW;obtain⟨P2,L2,F2,h2',awI,hL2,hF2⟩:=hc2;have H2:Hid _:=h2';have HE2:Hid _:=hE2;have vS:Hid _:=M2;have HEV:Hid _:=hev;have aBr:Hid _:=awI;have HL2:Hid _:=hL2;have MW:Hid _:=hF2;clear hE2 M2 hev h2' awI hL2 hF2 cjV;go_wp2_with (refine eF rfl 42 (.tmp 4) (.tmp 30) rfl (w.heap.size+1) (d9 (told (pz k s)) (.slice ea uN.length ec) aV aV) gM (by simp[Act.eval,d9,coded,told,aV,TN,cf0]) 42 iJ jW.out Tryz.lJ hsA Fh ?_)
     have E6:=HE2.out.kept (lab':=oh) (W':=wr.setRow (w.heap.size+1) (d9 (told (pz k s)) (.slice ea uN.length ec) aV aV)) (by simp[World.setRow]) (fun _ _ h=>h) (fun g _ _ hg=>gX _ _ g _ ak);have O6:=(E6.base (B':=w.heap.size) ak).out;rw[HEV.out]at O6;refine eD results58 rfl rfl jW.out rfl ⟨oh,_,rfl,⟨P2,L2,F2,H2.out.ret l92 iX _,aBr.out,HL2.out,MW.out⟩,(QZ.out.trans vS.out).ret ak _,⟨_,_,_,none,0,rfl,O6,rfl,jV _ _ _,sI _ _ _⟩⟩
 ·have hb:(decide (1<=c.tk)&&decide (c.tk<=256))=false:=by rw[NA];intro e;rw[lW,nS,nS]at e;exact h1 e
  rw[hb]at IE;have hS:nQ s c=(s,coded 189):=by unfold nQ;rw[aJ h1]
  rw[hS];go_enter func58,ntmps58;go_wp2_with (first
   | (go_at_call 106;refine IE.mono ?_;rintro e w1 ⟨rfl,rfl⟩)
   | (go_at_call 30;refine(iq _ _).mono ?_;rintro e w2 ⟨rfl,b2⟩;have⟨iJ,jW,hsA⟩:=dM (dB.below HA.out b2))
   | (refine eF rfl 42 (.tmp 4) (.tmp 10) rfl (w.heap.size+1) (d9 (coded 189) aV aV aV) gM gM 42 iJ jW.out Tryz.lJ hsA Fh ?_))
  refine eD results58 rfl rfl jW.out rfl ⟨lab,_,rfl,⟨P,L,F,(H0.out.below b2).ret qW iX _,hjs,hL,hF⟩,(yJ.out.below b2).ret ak _,iw lab _ _ _⟩
end
end Go.Proofs.YtdhifkbbjlhcaaaGreatDoor
