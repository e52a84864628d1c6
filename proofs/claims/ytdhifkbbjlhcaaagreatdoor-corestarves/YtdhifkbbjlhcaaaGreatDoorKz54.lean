import Derived.Test.YtdhifkbbjlhcaaaGreatDoorKz49
import Derived.Test.YtdhifkbbjlhcaaaGreatDoorKz53
import Derived.Test.YtdhifkbbjlhcaaaGreatDoorKz51
set_option maxRecDepth 100000
set_option maxHeartbeats 16000000
set_option linter.defProp false
namespace Go.Proofs.YtdhifkbbjlhcaaaGreatDoor
open Go.Proofs.Tryz
variable {W w:ay} {ao ua:Option Addr} {c:Cg.Cf} {l:List Cd} {sc:Nat}
section
open Go.RowKit Wd Tr Cg Ld
def Zp (h:gq c=0):Turn (newS c):=
 ⟨Fa h,fun n j hj=>by simp[newS]at hj,0,fun hh=>absurd rfl hh,fun n j hj=>by simp[newS]at hj⟩
def WG {n sc:Nat} (hB:MH w c W) (h:gq c≠0):Calls prog 5 #[gY c,.slice ao n sc] w fun e w'=>e=.returned (.bool true)/\Z w w':=by
 have hs:=hB.shown;have hb:=hB.bad h;have HB:Hid _:=hB;have hW:=hB.eq;clear hB;unfold gY;go_enter func5,ntmps5;exact aeX
def R_ (hB:MH w c W) (h:gq c=0) (hA:uD w ao l) (hk:∀c∈l,GH c) (hn:l.length*80<=140737488351232):Calls prog 5 #[gY c,.slice ao l.length sc] w fun e w'=>e=.returned (.bool true)/\Z w w':=by
 have hs:=hB.shown;have hb:=hB.good h;have hbd:=fun V=>XH h V;have hA:=hA.below hB.dQ;have HB:Hid _:=hB;have hW:=hB.eq;have HA:Hid _:=hA;have HK:Hid _:=hk;have hkn:=Zp h;have hcf:(newS c).cf=c:=rfl;have⟨n,hN⟩:=aZ l.length;rw[hN]at hn ⊢;have HN:Hid _:=hN;clear hB hA hk hN h;unfold gY at hbd ⊢;go_enter func5,ntmps5;go_wp2_with (first
  | (go_at_call 9;refine hs.mono ?_;rintro e w1 ⟨rfl,b1⟩;have⟨q0,q1,q2,q3,q4,q5,q6,q7⟩:=(HB.out.box.below b1).cells)
  | (go_at_call 10;refine(hb _ b1).mono ?_;rintro e w2 ⟨x,rfl,lab,D⟩;have⟨q0,q1,q2,q3,q4,q5,q6,q7⟩:=(HB.out.box.below D.dQ).cells)
  | (go_at_call 18;refine(hbd _).mono ?_;rintro e w3 ⟨rfl,b3⟩))
 have HD:Hid _:=D.below b3;have HT:Hid _:=hkn;have⟨s0,hs0⟩:=aZ (newS c);rw[hs0]at HD HT hcf;clear hs hb hbd hW hkn q0 q1 q2 q3 q4 q5 q6 q7 D b1 b3 hs0;go_loopg [9] n (fun gk p wr=>∃i:Nat,i+gk=n/\p=J i/\∃lab s,Dn lab W wr x s/\Turn s/\s.cf=c)
 case atStart=>exact⟨0,by omega,rfl,lab,_,HD.out,HT.out,hcf⟩
 case round=>
  obtain⟨i,hi,rfl,la,s,D,ht,hcs⟩:=hrel;have HD:Hid _:=D;have HTs:Hid _:=ht;have HCS:Hid _:=hcs;clear D ht hcs;by_cases hlt:i<n
  ·have hlt':(i:Int)<n:=ak;by_cases h3:i<600
   ·have h3':(i:Int)<600:=ak;obtain⟨cm,hcm⟩:∃cm,l[i]?=some cm:=⟨_,aY (by rw[HN.out];exact hlt)⟩;have⟨g,o,hao,hcc⟩:=HA.out;obtain rfl:=hao (by rw[HN.out];omega);have⟨nm1,nm2⟩:=HK.out cm (dW hcm);have hcl:=fun k v hv=>hcc i cm hcm k v hv;have hdd:=HD.out.deed cm nm1 nm2;have c0:wr.cell? ⟨g,o+i*8,none⟩=some (J cm.kind):=aR HD.out.dQ (hcl 0 _ rfl);have c1:=aR HD.out.dQ (hcl 1 _ rfl);have c2:=aR HD.out.dQ (hcl 2 _ rfl);have c3:=aR HD.out.dQ (hcl 3 _ rfl);have c4:=aR HD.out.dQ (hcl 4 _ rfl);have c5:=aR HD.out.dQ (hcl 5 _ rfl);have c6:=aR HD.out.dQ (hcl 6 _ rfl);have c7:=aR HD.out.dQ (hcl 7 _ rfl);have htd:=anu HTs.out cm;have hdc:=apI s cm;have⟨r,hr⟩:=aZ (yS s cm);rw[hr]at hdd htd hdc;unfold fM at hdd;have HTD:Hid _:=htd;have HDC:Hid _:=hdc;clear hcl hr hao hcc htd hdc;go_upto_region 12 with(go_at_call 12;refine hdd.mono ?_;rintro e w4 ⟨v4',rfl,J3,D4,M4,A4⟩)
    have hst:=D4.state;have HD4:Hid _:=D4;clear c0 c1 c2 c3 c4 c5 c6 c7 hdd D4 M4 A4;go_upto_region 13 with(first
     | (go_at_call 11;refine hst.mono ?_;rintro e w5 ⟨ua,uc,g5,rfl,b5,qs,T5⟩)
     | (refine eF rfl 32 (.tmp 10) (.tmp 46) rfl w5.heap.size (uL r.1.cf r.1.now (.slice ua r.1.la.length uc) (.slice (some ⟨g5,0,none⟩) r.1.js.length r.1.js.length) r.1.hd) gM gM 32 _ (aK w5 _) Tryz.RH rfl (by simp[uL,Value.oneCell']) ?_;have⟨v5,hv5,bv5,gv5,zv5⟩:=qG w5 #[J 0,J 0,J 0,J 0,J 0,J 0,J 0,J 0,J 0,.slice none 0 0,.slice none 0 0,J 0] (uL r.1.cf r.1.now (.slice ua r.1.la.length uc) (.slice (some ⟨g5,0,none⟩) r.1.js.length r.1.js.length) r.1.hd) 32;rw[hv5]))
    have HT5:Hid _:=T5.below bv5;have HG5:Hid _:=gv5;have HDV:Hid _:=(HD4.out.below b5).below bv5;have kI:=HTD.out.v.ok.many;have hsame:=T5.same;have⟨bx,hbx⟩:=aZ w5.heap.size;rw[hbx]at HG5;rw[hbx];clear hst hv5 T5 gv5 b5 bv5 zv5;have⟨m,hm⟩:=aZ r.1.js.length;rw[hm]at HG5 kI;have HM:Hid _:=hm;have ak1:=HG5.out;clear hbx hm hsame;go_wp2;go_loopg [11] m (fun gk p wx=>∃k:Nat,k+gk=m/\p=J k/\Z v5 wx)
    case atStart=>exact⟨0,by omega,rfl,aI _ _⟩
    case round=>
     obtain⟨k,hk,rfl,hbw⟩:=hrel;have DL:Hid _:=hbw;have b10:wr.cell? ⟨bx,10,none⟩=some (.slice (some ⟨g5,0,none⟩) m m):=aR hbw (aj HG5.out rfl);clear hbw ak1;by_cases hkm:k<m
     ·have Zq:(k:Int)<m:=ak;obtain⟨p,hp⟩:∃p,qs[k]?=some p:=⟨_,aY (by have:=aP List.length HT5.out.same;rw[dL,HM.out]at this;omega)⟩;have hj:r.1.js[k]?=some p.v:=(by rw[← HT5.out.same,jI,hp];rfl);have⟨g',o',e1,e2⟩:=(HT5.out.below DL.out).ajI
      cases e1 (by have:=(bO.1 hp).1;omega)
      have hc:=(e2 k p hp).1;simp only[rJ]at hc;have d0:wr.cell? ⟨g5,k*8,none⟩=some (J p.v.ac):=hc 0 _ rfl;have d1:=hc 1 _ rfl;have d2:=hc 2 _ rfl;have d3:=hc 3 _ rfl;have d4:=hc 4 _ rfl;have d5:=hc 5 _ rfl;have d6:=hc 6 _ rfl;have d7:=hc 7 _ rfl;have hh:=HTD.out.v.ok.head hj;have ajV:=HTD.out.late hj;have hdone:=HTD.out.done k p.v hj;have hn0:=HTD.out.v.ok.n0;have hn1:=HTD.out.v.ok.n1;have hsr: -9223372036854775808<=p.v.sr/\p.v.sr<=9223372036854775807:=(HTD.out.v.ok.small hj).1;have e8:bH r.1.cf=bH c:=(by rw[HDC.out,HCS.out]);rw[e8]at hh ajV hdone;have hsb:0<=p.v.sb/\p.v.sb+bH c<=1099511627776/\0<=bH c:=⟨hh.2.2.2.2.2.2.1,hh.2.2.2.2.2.2.2.2,by have:=MQ HTD.out.v.rng;have:=JF HTD.out.v.rng;rw[e8]at *;omega⟩;have HLA:Hid _:=ajV;have HDO:Hid _:=hdone;clear e1 e2 hc hh ajV hdone e8;go_upto_region 17 with fail
      have⟨v6,hv6,bv6,gv6,zv6⟩:=sJ wr #[J p.v.ac,J p.v.nd,J p.v.lm,J p.v.sb,J p.v.st,J p.v.sr,J p.v.en,.slice p.sa p.v.set.length p.sc] 38;rw[hv6];have e4:=fK 4 gv6;have e3:=fK 3 gv6;have e5:=fK 5 gv6;have e8:v6.cell? ⟨bx,8,none⟩=some (J r.1.now):=aR (DL.out.trans (bv6.mono DL.out.size)) (aj HG5.out rfl);have HB6:Hid (Z v5 v6):=DL.out.trans (bv6.mono DL.out.size);have⟨st,hst⟩:=aZ p.v.st;obtain⟨sb,anw⟩:∃sb,p.v.sb=sb:=⟨_,rfl⟩;obtain⟨sr,asr⟩:∃sr,p.v.sr=sr:=⟨_,rfl⟩;have⟨nw,hnw⟩:=aZ r.1.now;rw[hst]at e4;rw[anw]at e3 hsb;rw[asr]at e5 hsr;rw[hnw]at e8 hn0 hn1;have HX:Hid (st=1->nw<sb+bH c):=fun h=>by have:=HLA.out;rw[hst,hnw,anw]at this;exact this h
      have HY:Hid (st≠1->st≠6->sr<=sb+bH c):=fun h g=>by have:=HDO.out;rw[hst,asr,anw]at this;exact this h g
      clear hst anw asr hnw HLA HDO hv6 gv6 bv6 zv6 d0 d1 d2 d3 d4 d5 d6 d7 hj hp b10;by_cases z1:st=1
      ·subst z1;have zz:¬sb+bH c<=nw:=(by have:=HX.out rfl;omega);have zd:decide (sb+bH c<=nw)=false:=dH zz;exact ae8
      ·by_cases z6:st=6
       ·subst z6;exact ae8
       ·have zz:¬sb+bH c<sr:=by have:=HY.out z1 z6;omega
        have zd:decide (sb+bH c<sr)=false:=dH zz;have y1:decide (st=1)=false:=dH z1;have y2:(st==1)=false:=(by simpa using z1);have y3:(st != 1)=true:=(by simpa using z1);have y4:decide (st=6)=false:=dH z6;have y5:(st==6)=false:=(by simpa using z6);have y6:(st != 6)=true:=(by simpa using z6);exact ae8
     ·have Zq:¬(k:Int)<m:=ak;go_wp2;go_roundg (n - (i+1))
      case measure=>omega
      case rel=>exact⟨i+1,by omega,by go_num,J3,r.1,HDV.out.below DL.out,HTD.out,HDC.out.trans HCS.out⟩
   ·have h3':¬(i:Int)<600:=ak;exact WX
  ·exact ae7
def Sb (c:Cf) (hT:V8.Tab w/\_root_.Go.Proofs.YtdhifkbbjlhcaaaGreatDoor.Tab w/\N2.Tab w) (hA:uD w ao l) (hk:∀c∈l,GH c) (hn:l.length*80<=140737488351232):Calls prog 5 #[gY c,.slice ao l.length sc] w fun e w'=>e=.returned (.bool true)/\Z w w':=by
 have⟨W,hB⟩:=begins c hT;by_cases h:gq c=0
 ·exact R_ hB h hA hk hn
 ·exact WG hB h
end
section
open Go.ChangeShapes Go.WideShapes Go.ChangeAt Go.RowKit Go.Joins Wd Ld Cg Tr Lg
def MU (os:Os) (started:os.Started) (H:Type) (enc:TypeId×Value->H):
  ReturnsInHanded {} Tryz.checked os 5 .any (fun w args=>(Rows.coreStarvesSpec.pre enc prog f5 [] false w args/\laidMetH prog uz w)/\sizedMet enc prog f5 (OpenSpec.ofChange Rows.coreStarvesSpec) false w args)
   (Rows.coreStarvesSpec.post enc prog f5 false true false false):=by
 refine returnsInHanded_of_change_and (C:=Tryz.checked) (X:=fun w _=>laidMetH prog uz w) (fun _ _ _ hh h=>h.of_heap hh) Tryz.own started aF func5
  (ChangeSpec.witness_at (enc:=enc) (C:=Tryz.checked) (os:=os) (X:=fun w _=>laidMetH prog uz w) false (Bp os) #[.agg #[.int .i64 0,.int .i64 0,.int .i64 0,.int .i64 0,.int .i64 0,.int .i64 0,.int .i64 0,.int .i64 0],.slice none 0 0] 5 rfl aF aF aF aF aF (Mw os _)) ?_
 intro W base args ds gs before hval0 hW _ hsz0 hL _;have hsz:(DataW.weightsEach prog (f5.params.toList++Rows.coreStarvesSpec.plain.varTypes prog) (ds++gs)).all (· <=reachBytes)=true:=hsz0;have hval:∀(j:Nat) t v,f5.params[j]?=some t->args[j]?=some v->Value.okWide prog W .any base t v:=hval0;have hW':=hW;obtain⟨p,q,hA0,hV,rfl,hfz,hnd⟩:=hW;have hA:DataW.TrodAll enc prog W 0 (fun _=>true) true f5.params.toList args.toList ds p:=hA0;rw[params5]at hA hval hsz;obtain⟨v0,v1,d0,d1,p0,p1,rfl,rfl,rfl,h0,h1⟩:=trodAll_two hA;obtain⟨rfl,rfl⟩:=trodVars_none hV;have hk0:=h0;obtain⟨c,rfl⟩:=ajg (hval 0 23 v0 rfl rfl) h0;have hk1:=h1;obtain⟨ao,n,sc,rfl⟩:=okWide_slice underlying24 (hval 1 24 v1 rfl rfl);obtain⟨fuel1,hf1⟩:=h1;obtain⟨hn,l,rfl,hl,hok⟩:=RP hf1 (fun k hk=>jY (vC.1 hsz k (DataW.weights_mem_each (j:=1) (t:=24) rfl rfl k hk)));clear hA0 hval0;simp only[vW]at hW';have hT:=AO hL;have ajO:∀x∈p0,x.block<W.heap.size:=fun x hx=>hW'.lt x (by simp[hx]);have a0:∀(W':ay),Z W W'->DataW.Trod enc prog W' 0 (fun b=>decide (b<W.heap.size)) true 23 _ d0 p0:=
  fun W' hn=>Below.trod Tryz.laidOut aF (jY aF) hk0 hn ajO
 have hlt1:∀x∈p1,x.block<W.heap.size:=fun x hx=>hW'.lt x (by simp[hx]);have a1:∀(W':ay),Z W W'->DataW.Trod enc prog W' 0 (fun b=>decide (b<W.heap.size)) true 24 _ d1 p1:=
  fun W' hn=>Below.trod Tryz.laidOut aF (jY aF) hk1 hn hlt1
 refine(Sb c hT hl hok hn).mono fun e W' ⟨he,hg⟩=>?_;exact anW
def WH:Rows.CoreStarvesSaid:=
 OpenClaim.holds_of_wide 5 f5 rfl rfl rfl rfl rfl rfl rfl ⟨rfl,rfl,rfl,rfl,rfl⟩ rfl rfl rfl rfl rfl aF func5 MJ
  (jY aF) (by unfold Func.isWrapper;first | (rw[aJ (by decide +kernel)];kernel_rfl) | (rw[au (by decide +kernel)];exact⟨rfl,rfl⟩))
  (fun os started H enc _=>MU os started H enc)
theorem starves_holds:Rows.CoreStarvesCardSaid:=
 Claim7.holds_tied_plain_at .later [] [.data,.data,.data] true (true, "1052b75edc62fdce1d8e6733364656b1f33caa93aa0fa9595ed0dac812750d56") false
  WH (fun _ h=>by cases h) (by as_aux_lemma=>kernel_rfl) (fun _ h=>by cases h) coreStarves_row_tie rfl ⟨rfl,rfl⟩ (by as_aux_lemma=>kernel_rfl) rfl
  (fun f fn hf hfn=>by
   obtain rfl:f=5:=ji ((show prog.funcNamed "backfill/backfilllaw18.CoreStarves" =some 5 by as_aux_lemma=>kernel_rfl).symm.trans hf) |>.symm
   obtain rfl:fn=f5:=(ji (func5.symm.trans hfn)).symm
   exact⟨by as_aux_lemma=>kernel_rfl,fun j t ht=>by
    rw[params5]at ht
    have h3:t=23\/t=24:=by
     exact aoi
    rcases h3 with rfl | rfl
    ·exact W_
    ·exact (show prog.wantsStandIn 24=false by as_aux_lemma=>kernel_rfl)⟩)
  (by as_aux_lemma=>kernel_rfl)
end
section
open Go.RowKit Wd Tr Cg Ld
theorem zR (a b:List Jv):bT (a++b)=bT a++bT b:=by grind[bT]
def NZ {js:List Jv} {k:Nat} {j:Jv} (h:js[k]?=some j):bT (js.take (k+1))=bT (js.take k)++(if j.st=2 then [⟨j.nd,j.sr+j.lm⟩]else []):=by
 grind[kT,bT,ko]
def Sc:∀ {js:List Jv},(∀j∈js,0<=j.nd)->0<=Pq.Pr.fG (bT js)
 | [],_=>kL _
 | j::js,h=>by
  have h1:=Sc (js:=js) (fun x hx=>h x (ny _ hx));rw[show j::js= [j]++js from rfl,zR,Pq.Pr.uf];grind[Pq.Pr.fG,bT]
def GV {s:Sv} (v:Kept s) (k:Nat):0<=Pq.Pr.fG (bT (s.js.take k))/\Pq.Pr.fG (bT (s.js.take k))<=s.cf.nodes/\(bT (s.js.take k)).length<=4096:=by
 have h1:=Sc (js:=s.js.take k) (fun j hj=>v.nds j (JU hj));have h2:=Sc (js:=s.js.drop k) (fun j hj=>v.nds j (List.mem_of_mem_drop hj));have h3:Pq.Pr.fG (bT s.js)=Pq.Pr.fG (bT (s.js.take k))+Pq.Pr.fG (bT (s.js.drop k)):=by grind[Pq.Pr.uf,zR,Fq]
 have h4:=(Pq.Pr.fP.1 v.right).1.1;grind[dz,Kept.ok,jk.many,bT]
def ajW (w:ay):(w.alloc (.cells #[] 108)).ownsRow w.heap.size 108 2 (.slice (some ⟨w.heap.size,0,none⟩) 0 0) 0 []:=
 ⟨rfl,.inr ⟨w.heap.size,0,#[],rfl,aC _,aK w _,by omega,by decide,rfl,rfl⟩⟩
def aey {s:Sv} (v:Kept s) {uc g:Nat} {qs:List Pj} {B:Nat} (hT:uE B s (.slice ua s.la.length uc) g qs w):
  Calls prog 33 #[.agg (uL s.cf s.now (.slice ua s.la.length uc) (.slice (some ⟨g,0,none⟩) s.js.length s.js.length) s.hd)] w fun e w'=>∃ra rc,e=.returned (.tuple #[J (dz s),.slice ra (bT s.js).length rc])/\Pq.eO w' ra (bT s.js)/\Below w.heap.size w w':=by
 have HV:Hid _:=v;have HT0:Hid _:=hT;have⟨m,hm⟩:=aZ s.js.length;have HM:Hid _:=hm;have kI:=v.ok.many;rw[hm]at kI ⊢;have⟨i0,hi0,hz0,hz1,hz2⟩:=fA Pq.Tryz.LV;unfold uL;clear v hT hm;go_enter func33,ntmps33;go_upto_region 3 with fail
 have⟨W,hW,bW,gW,zW⟩:=sJ w #[J s.cf.nodes,J s.cf.queue,J s.cf.limit,J s.cf.age,J s.cf.fair,J s.cf.size,J s.cf.period,J s.cf.half,J s.now,.slice ua s.la.length uc,.slice (some ⟨g,0,none⟩) m m,J s.hd] 32;rw[hW,<-zW];have⟨bx,hbx⟩:=aZ w.heap.size;have HT:Hid _:=HT0.out.below bW;have DL:Hid (Below bx w W):=by rw[← hbx];exact bW
 have Cb:Hid (w.heap.size=bx):=hbx;rw[hbx]at gW ⊢;have HG:Hid (∀V,Below W.heap.size W V->V.cell? ⟨bx,10,none⟩=some (.slice (some ⟨g,0,none⟩) m m)):=fun V b=>aj (bP gW b) rfl;have HE:Hid (World.ownsRow (W.alloc (.cells #[] 108)) W.heap.size 108 2 (.slice (some ⟨W.heap.size,0,none⟩) 0 0) 0 []):=ajW W;clear hW bW zW hbx gW;have HB0:Hid (Below W.heap.size W (W.alloc (.cells #[] 108))):=dY;go_wp2;go_loopg [4,5,6] m (fun gk f v p wr=>∃k:Nat,k+gk=m/\f=J (s.cf.nodes - Pq.Pr.fG (bT (s.js.take k)))/\p=J k/\wr.ownsRow W.heap.size 108 2 v (bT (s.js.take k)).length (Pq.fJ (bT (s.js.take k)))/\Below W.heap.size W wr)
 case atStart=>exact⟨0,by omega,by simp[bT,Pq.Pr.fG],rfl,by simpa [bT,Pq.fJ]using HE.out,HB0.out⟩
 case round=>
  obtain⟨k,hk,hf,rfl,hrow,hb⟩:=hrel;subst hf;have HR:Hid (World.ownsRow wr W.heap.size 108 2 _ (bT (s.js.take k)).length (Pq.fJ (bT (s.js.take k)))):=hrow;have HB:Hid _:=hb;have k10:=HG.out _ hb;have hpart:=GV HV.out k;clear hrow hb HE HB0;by_cases hkm:k<m
  ·have Zq:(k:Int)<m:=ak;obtain⟨p,hp⟩:∃p,qs[k]?=some p:=⟨_,aY (by have:=aP List.length HT.out.same;rw[dL,HM.out]at this;omega)⟩;have hj:s.js[k]?=some p.v:=(by rw[← HT.out.same,jI,hp];rfl);have htk:=NZ hj;have hpn:=GV HV.out (k+1);have hh:=HV.out.ok.head hj;have hsm:=(HV.out.ok.small hj).2;have hn1:=HV.out.ok.n1;have hr:=HV.out.rng;have hlm:1<=p.v.lm/\p.v.lm<=1048576:=(by have:=hr.l1;omega);have hsr:0<=p.v.sr/\p.v.sr<=1099511627776:=ak;have hnd:1<=p.v.nd/\p.v.nd<=256:=(by have:=hr.n1;omega);have hcn:1<=s.cf.nodes/\s.cf.nodes<=256:=⟨hr.n0,hr.n1⟩;have⟨g',o',e1,e2⟩:=(HT.out.below HB.out).ajI
   cases e1 (by have:=(bO.1 hp).1;omega)
   have hc:=(e2 k p hp).1;simp only[rJ]at hc;have d0:wr.cell? ⟨g,k*8,none⟩=some (J p.v.ac):=hc 0 _ rfl;have d1:=hc 1 _ rfl;have d2:=hc 2 _ rfl;have d3:=hc 3 _ rfl;have d4:=hc 4 _ rfl;have d5:=hc 5 _ rfl;have d6:=hc 6 _ rfl;have d7:=hc 7 _ rfl;clear e1 e2 hc hh hsm hr;go_upto_region 7 with fail
   have⟨v6,hv6,bv6,gv6,zv6⟩:=sJ wr #[J p.v.ac,J p.v.nd,J p.v.lm,J p.v.sb,J p.v.st,J p.v.sr,J p.v.en,.slice p.sa p.v.set.length p.sc] 38;rw[hv6];have e4:=fK 4 gv6;have e1:=fK 1 gv6;have e2:=fK 2 gv6;have e5:=fK 5 gv6;have HR6:Hid (World.ownsRow v6 W.heap.size 108 2 _ (bT (s.js.take k)).length (Pq.fJ (bT (s.js.take k)))):=eG HR.out bv6;have HB6:Hid _:=HB.out.trans (bv6.mono HB.out.size);have Y2:Hid _:=htk;clear htk hv6 gv6 bv6 zv6 d0 d1 d2 d3 d4 d5 d6 d7 hj hp k10;by_cases z:p.v.st=2
   ·have HTY:Hid (bT (s.js.take (k+1))=bT (s.js.take k)++ [⟨p.v.nd,p.v.sr+p.v.lm⟩]):=Y2.out.trans (by rw[aJ z]);rw[HTY.out,Pq.Pr.uf]at hpn;simp only[Pq.Pr.fG,tC,dK,jh]at hpn;rw[z]at e4;have⟨R,hR⟩:=aZ (bT (s.js.take k));have HRR:Hid _:=hR;rw[hR]at HR6 hpn hpart ⊢;have⟨S,hS⟩:=aZ (Pq.Pr.fG R);have HSS:Hid _:=hS;rw[hS]at hpn hpart ⊢;have hz6:W.heap.size<=v6.heap.size:=HB6.out.size;clear hR hS z;go_wp2_with (at_builtin;refine wpList_append_own_wide _ rfl (.tmp 31) (.tmp 40) 75 rfl W.heap.size 108 i0 _ 2 16 underlying75 hi0 hz0 hz1 hz2 rfl aT _ _ _ rfl (HR6.out.alloc _) ⟨_,0,none⟩ 1 1 [J p.v.nd,J (p.v.sr+p.v.lm)] rfl rfl (Pq.mJ _ _ _) (fun u hu=>by simp at hu;rcases hu with rfl | rfl<;>rfl) (bM (m:=35184372088832) ak aT) ak fE ?_;intro v' w5 hown hgr _)
    go_roundg (m - (k+1))
    case measure=>omega
    case rel=>
     refine⟨k+1,by omega,?_,by go_num,?_,?_⟩
     ·rw[HTY.out,HRR.out,Pq.Pr.uf,HSS.out];simp only[Pq.Pr.fG];congr 1;omega
     ·rw[HTY.out,HRR.out,Pq.xu,tC];exact hown
     ·exact wH (HB6.out.alloc hz6 _) (HR6.out.alloc _) (aC _) hgr
   ·have HTY:Hid (bT (s.js.take (k+1))=bT (s.js.take k)):=Y2.out.trans (by rw[au z,vW]);have y1:decide (p.v.st=2)=false:=dH z;have y2:(p.v.st==2)=false:=(by simpa using z);go_wp2;go_roundg (m - (k+1))
    case measure=>omega
    case rel=>exact⟨k+1,by omega,by rw[HTY.out],by go_num,by rw[HTY.out];exact HR6.out,HB6.out⟩
  ·have Zq:¬(k:Int)<m:=ak;obtain rfl:k=m:=ak;have e:s.js.take k=s.js:=xH (by rw[HM.out];exact aC _);have HRR:Hid _:=e;rw[e]at HR ⊢;have⟨ra,rc,hv,hA⟩:=Pq.EX HR.out;subst hv;go_wp2;go_ret2
   refine⟨ra,⟨rc,rfl⟩,hA,?_⟩;rw[Cb.out];exact DL.out.trans (HB.out.mono (by rw[← Cb.out];exact DL.out.size))
def anx {s:Sv} (v:Kept s) {uc g:Nat} {qs:List Pj} {B:Nat} (hT:uE B s (.slice ua s.la.length uc) g qs w):
  Calls prog 17 #[.agg (uL s.cf s.now (.slice ua s.la.length uc) (.slice (some ⟨g,0,none⟩) s.js.length s.js.length) s.hd)] w fun e w'=>e=.returned (J (lY s))/\Below w.heap.size w w':=by
 by_cases h0:s.hd<0
 ·have hn:lY s= -1:=aJ h0;rw[hn];have⟨m,hm⟩:=aZ s.js.length;rw[hm];unfold uL;clear v hT hm hn;go_enter func17,ntmps17;exact P5
 ·have⟨q,y,g1,g2,g3⟩:=(v.held).resolve_left ak;have hy:s.js[s.hd.toNat]?=some y:=by rw[g1,gJ];exact g2
  have hnd:MS s=y.nd:=by unfold MS;rw[hy]
  have hne:lY s=if y.nd<=dz s then s.now else Pq.Pr.atO (Pq.Pr.aX s.now (dz s) (bT s.js) y.nd):=by rw[← hnd];exact au h0
  have hsh:=(DK v ak hy).2.2.2;have hlen:=(GV v s.js.length).2.2;rw[oC]at hlen;have hqm:=(bO.1 g2).1;have HV:Hid _:=v;have kI:=v.ok.many;have⟨W,hW,bW,gW,zW⟩:=sJ w #[J s.cf.nodes,J s.cf.queue,J s.cf.limit,J s.cf.age,J s.cf.fair,J s.cf.size,J s.cf.period,J s.cf.half,J s.now,.slice ua s.la.length uc,.slice (some ⟨g,0,none⟩) s.js.length s.js.length,J s.hd] 32;have hTW:=hT.below bW;have hwo:=aey v hTW;have HTW:Hid _:=hTW;have DL:Hid _:=bW;have HY:Hid (∀V,Below W.heap.size W V->V.cell? ⟨g,q*8+1,none⟩=some (J y.nd)):=fun V b=>by
   obtain⟨p,hp⟩:∃p,qs[q]?=some p:=⟨_,aY (by have:=aP List.length HTW.out.same;rw[dL]at this;omega)⟩
   have hj:s.js[q]?=some p.v:=by rw[← HTW.out.same,jI,hp];rfl
   rw[g2]at hj
   cases hj;have⟨g',o',e1,e2⟩:=(HTW.out.below b).ajI
   cases e1 (by have:=(bO.1 hp).1;omega)
   have hc:=(e2 q p hp).1 1 _ rfl;simp only[rJ]at hc;exact hc
  have HS:Hid _:=hsh;have HN:Hid _:=hne;rw[g1]at gW hW hwo ⊢;have⟨m,hm⟩:=aZ s.js.length;rw[hm]at gW hW hqm hwo kI ⊢;have⟨bx,hbx⟩:=aZ w.heap.size;rw[hbx]at gW;have HG:Hid (∀V,Below W.heap.size W V->V.heap[bx]?=some (.cells #[J s.cf.nodes,J s.cf.queue,J s.cf.limit,J s.cf.age,J s.cf.fair,J s.cf.size,J s.cf.period,J s.cf.half,J s.now,.slice ua s.la.length uc,.slice (some ⟨g,0,none⟩) m m,J q] 32 (0,0))):=fun V b=>bP gW b;have Cb:Hid _:=hbx;have F7:Hid _:=g1;have aIn:(q:Int)<m:=ak;unfold uL at hwo ⊢;clear v hT hm hnd hne hsh hTW bW g1 g2 g3 hy h0 gW zW;go_enter func17,ntmps17;go_upto_region 1 with fail
  have k11:=fK 11 (HG.out W (aI _ _));have aBR:Hid (Below bx w W):=by rw[← hbx];exact DL.out
  clear hW hbx;go_upto_region 4 with(first
   | (refine wpList_load_row rfl 32 (.tmp 1) rfl bx gM 32 _ (0,0) _ (HG.out W (aI _ _)) underlying32 rfl Tryz.RH ?_)
   | (go_at_call 33;refine hwo.mono ?_;rintro e w1 ⟨ra,rc,rfl,hra,b1⟩))
  have kj:w1.cell? ⟨g,q*8+1,none⟩=some (J y.nd):=HY.out w1 b1;have aIo:=fK 11 (HG.out w1 b1);have aIp:=fK 10 (HG.out w1 b1);have k8:=fK 8 (HG.out w1 b1);have aBS:Hid (W.heap.size<=w1.heap.size):=b1.size;have HB1:Hid (Below bx w w1):=aBR.out.trans (b1.mono (by rw[← Cb.out];exact DL.out.size));have awT:=Pq.Yd (c:=rc) hra ak s.now (dz s) y.nd;have aBT:Hid (Unit->_):=fun _=>awT;clear hwo k11 hra b1 awT;by_cases hf:y.nd<=dz s
  ·have e:lY s=s.now:=(by rw[HN.out,aJ hf]);have HE:Hid _:=e;clear e;go_wp2;go_ret;refine⟨by rw[HE.out];rfl,?_⟩;rw[Cb.out];exact HB1.out
  ·have⟨t,ht,hte⟩:=HS.out ak;have HE:Hid (t.at_=lY s):=hte;have h34:=aBT.out ();rw[ht]at h34;unfold Pq.Pr.SX at h34;simp only at h34;clear ht hte;go_wp2_with (go_at_call 34;refine h34.mono ?_;rintro e w2 ⟨rfl,b2⟩)
   go_ret;refine⟨by rw[← HE.out];rfl,?_⟩;rw[Cb.out];exact HB1.out.trans (b2.mono (by rw[← Cb.out];exact bM DL.out.size aBS.out))
def Tryz.aBU:(prog.info? 45).map (fun i=>(i.zero,i.size,i.bytes))=some (some (.agg #[J 0,.string ⟨#[]⟩,.string ⟨#[]⟩,J 0,J 0,J 0,J 0,J 0]),8,80):=aF
def asu (c:Cd):Prop:=c.kind=4->c.tk=1\/¬(1<=c.tk/\c.tk<=256)
def vv:List Cd->List Value
 | []=> []
 | c::l=>Mx c++vv l
def PG:∀a b:List Cd,vv (a++b)=vv a++vv b
 | [],b=>rfl
 | c::a,b=>by simp only[mP,vv,PG a b,Cq]
def WI:∀ {l:List Cd} {k:Nat} {c:Cd},l[k]?=some c->∀ {i:Nat} {v:Value},(Mx c)[i]?=some v->(vv l)[k*8+i]?=some v
 | x::l,0,c,h,i,v,hv=>by
  grind[vv]
 | x::l,k+1,c,h,i,v,hv=>by
  have h8:(Mx x).length=8:=rfl
  simp only[vv]
  rw[SK ak,h8,show (k+1)*8+i - 8=k*8+i by omega]
  exact WI (by grind) hv
def uM (w:ay) (q:Nat) (l:List Cd):Prop:=q<w.heap.size/\∀k c,l[k]?=some c->∀i v,(Mx c)[i]?=some v->w.cell? ⟨q,k*8+i,none⟩=some v
theorem uM.below {w V:ay} {q:Nat} (h:uM w q l) (b:Z w V):uM V q l:=⟨gL h.1 b.size,fun k c hc i v hv=>aR b (h.2 k c hc i v hv)⟩
def uM.mv {lab lab':Nat->Nat} {w V:ay} {q:Nat} (h:uM w q l) (h9:lab q=9) (m:Mv lab lab' w V):uM V q l/\lab' q=9:=
 ⟨⟨gL h.1 m.fF.size,fun k c hc i v hv=>m.fF.cell (h.2 k c hc i v hv) (fun hK=>by grind[Own])⟩,(m.old q h.1).trans h9⟩
def ajX {B:Nat} {v:Value} (h:W.ownsRow B 45 8 v l.length (vv l)) (h0:l≠ []):∃q sc,v=.slice (some ⟨q,0,none⟩) l.length sc/\B<=q/\uM W q l:=by
 rcases h.2 with⟨_,h1⟩ | ⟨g,cap,cur,rfl,hb,hg,_,_,_,ht⟩
 ·grind
 ·refine ⟨g,cap,rfl,hb,(aS.1 hg).1,fun k c hc i v hv=>?_⟩;have e:=WI hc hv;grind[aj]
def anz (c:Cd):∀u∈Mx c,u.oneCell'=true:=by
 intro u hu;simp only[Mx,lZ,List.not_mem_nil,or_false]at hu;rcases hu with rfl | rfl | rfl | rfl | rfl | rfl | rfl | rfl<;>rfl
def aez (w:ay) (e s:Nat):(w.alloc (.cells #[] e)).ownsRow w.heap.size e s (.slice (some ⟨w.heap.size,0,none⟩) 0 0) 0 []:=
 ⟨by simp,.inr ⟨w.heap.size,0,#[],rfl,aC _,aK w _,by omega,by decide,by simp,by simp⟩⟩
def Zr {c:Cd} (hc:GH c):Calls prog 16 #[.agg (fM c)] w fun e w'=>∃(q sc:Nat) (l:List Cd),e=.returned (.slice (some ⟨q,0,none⟩) l.length sc)/\w.heap.size<=q/\uM w' q l/\(∀d∈l,GH d/\asu d)/\l.length<=256/\Z w w':=by
 by_cases hk:c.kind=4/\1<=c.tk/\c.tk<=256
 ·obtain ⟨h4,h5,h6⟩:=hk;obtain⟨n,hn⟩:∃n:Nat,c.tk=n:=⟨c.tk.toNat,by omega⟩;have HN:Hid _:=hn;have⟨i0,hi0,hz0,hz1,hz2⟩:=fA Tryz.aBU;have y1:¬c.tk<1:=ak;have y2:¬256<c.tk:=ak;unfold fM;rw[h4];rw[hn]at h5 h6 y1 y2 ⊢;clear hn hc h4;go_enter func16,ntmps16;go_upto_region 4 with fail
  have⟨W,hW,bW,gW,zW⟩:=sJ w #[J 4,.string c.nm,.string c.pa,J c.sh,J c.nd,J c.lm,J c.jb,J n] 45;rw[hW,<-zW];have⟨bx,hbx⟩:=aZ w.heap.size;have DL:Hid (Z w W):=bW;have Cb:Hid (w.heap.size=bx):=hbx;rw[hbx]at gW ⊢;have HG:Hid (∀V,Z W V->V.cell? ⟨bx,7,none⟩=some (J n)):=fun V b=>aj (bP gW b) rfl;have HE:Hid (World.ownsRow (W.alloc (.cells #[] 45)) W.heap.size 45 8 (.slice (some ⟨W.heap.size,0,none⟩) 0 0) 0 []):=aez W 45 8;have HB0:Hid (Z W (W.alloc (.cells #[] 45))):=dY;clear hW bW zW hbx gW;have hn6:n<=256:=ak;go_wp2;go_loopg [3,4] n (fun gk v p wr=>∃k:Nat,k+gk=n/\p=J k/\wr.ownsRow W.heap.size 45 8 v k (vv (List.replicate k (Sz 1)))/\Z W wr)
  case atStart=>exact⟨0,by omega,rfl,HE.out,HB0.out⟩
  case round=>
   obtain⟨k,hk,rfl,hrow,hb⟩:=hrel;have HR:Hid (World.ownsRow wr W.heap.size 45 8 _ k (vv (List.replicate k (Sz 1)))):=hrow;have HB:Hid (Z W wr):=hb;have k7:=HG.out _ hb;clear hrow hb HE HB0;by_cases hkm:k<n
   ·have Zq:(k:Int)<n:=ak;go_wp2_with (first
     | (go_at_call 20;refine GL.mono ?_;rintro e w1 ⟨rfl,b1⟩;unfold fM Sz;have HR1:Hid (World.ownsRow w1 W.heap.size 45 8 _ k (vv (List.replicate k (Sz 1)))):=eG HR.out b1;have HB1:Hid (Z W w1):=HB.out.trans (b1.mono HB.out.size);have hzw:W.heap.size<=w1.heap.size:=HB1.out.size)
     | (at_builtin;refine wpList_append_own_wide _ rfl (.tmp 27) (.tmp 29) 24 rfl W.heap.size 45 i0 _ 8 80 underlying24 hi0 hz0 hz1 hz2 rfl aT _ _ _ rfl (HR1.out.alloc _) ⟨_,0,none⟩ 1 1 (Mx (Sz 1)) rfl rfl (Pq.mJ _ _ _) (anz _) (bM (m:=35184372088832) ak aT) ak fE ?_;intro v' w5 hown hgr _))
    go_roundg (n - (k+1))
    case measure=>omega
    case rel=>
     refine⟨k+1,by omega,by go_num,?_,?_⟩
     ·rw[List.replicate_succ',PG];exact hown
     ·exact wH (HB1.out.alloc hzw _) (HR1.out.alloc _) (aC _) hgr
   ·have Zq:¬(k:Int)<n:=ak;obtain rfl:k=n:=ak;have hr:=HR.out;rw[show vv (List.replicate k (Sz 1))=vv (List.replicate k (Sz 1))from rfl]at hr;obtain⟨q,sc,hv,hq,hA⟩:=ajX (l:=List.replicate k (Sz 1)) (by rw[List.length_replicate];exact hr) (fun e=>by have:=aP List.length e;simp at this;omega);rw[List.length_replicate]at hv;subst hv;go_wp2;go_ret;refine⟨q,sc,List.replicate k (Sz 1),by rw[List.length_replicate];rfl,bM DL.out.size hq,hA,fun d hd=>?_,by rw[List.length_replicate];omega,DL.out.trans (HB.out.mono DL.out.size)⟩;obtain⟨_,rfl⟩:=List.mem_replicate.1 hd;exact⟨⟨by decide,by decide⟩,fun _=>.inl rfl⟩
 ·have HK:Hid _:=hk;have HC:Hid _:=hc;unfold fM;clear hk hc;go_enter func16,ntmps16;have ends:∀(V:ay) (q:Nat),V.heap.size=q->Z w V->∃(r sc:Nat) (l:List Cd),(Ending.returned (.slice (some ⟨q,0,none⟩) 1 1))=Ending.returned (.slice (some ⟨r,0,none⟩) l.length sc)/\w.heap.size<=r/\uM (V.alloc (.cells (fM c) 45)) r l/\(∀d∈l,GH d/\asu d)/\l.length<=256/\Z w (V.alloc (.cells (fM c) 45)):=fun V q hq b=>by
   subst hq;refine⟨_,1,[c],rfl,b.size,⟨by simp,fun k d hk i v hv=>?_⟩,fun d hd=>?_,by simp,b.alloc b.size _⟩
   ·have:k=0:=by have:=(bO.1 hk).1;simp at this;omega
    subst this
    cases hk;simp only[ND,rJ];exact aj (aK V _) (by simpa [fM,Mx]using hv)
   ·obtain rfl:=List.mem_singleton.1 hd;exact⟨HC.out,fun h=>.inr fun x=>HK.out ⟨h,x⟩⟩
  have HEN:Hid _:=ends;clear ends;by_cases z:c.kind=4
  ·have y1:(c.kind != 4)=false:=(by simp[z]);have y2:(c.kind==4)=true:=(by simp[z]);have HZ:Hid _:=z;clear z;by_cases z1:c.tk<1
   ·go_wp2;go_ret
    exact HEN.out _ _ dF dY
   ·have z2:256<c.tk:=vK fun h=>HK.out ⟨HZ.out,by omega,by omega⟩;go_wp2;go_ret;exact HEN.out _ _ dF dY
  ·have y1:(c.kind != 4)=true:=(by simpa using z);have y2:(c.kind==4)=false:=(by simpa using z);go_wp2;go_ret;exact HEN.out _ _ dF dY
def WJ (s:Sv) (ho un:Int):Prop:=(s.hd<0/\ho= -1)\/(0<=s.hd/\ho=s.hd/\un=lY s)
def aeA {n sc:Nat} (hB:MH w c W) (h:gq c≠0):Calls prog 4 #[gY c,.slice ao n sc] w fun e w'=>e=.returned (.bool true)/\Z w w':=by
 have hs:=hB.shown;have hb:=hB.bad h;have HB:Hid _:=hB;have hW:=hB.eq;clear hB;unfold gY;go_enter func4,ntmps4;exact aeX
def Zt (hB:MH w c W) (h:gq c=0) (hA:uD w ao l) (hk:∀c∈l,GH c) (hn:l.length*80<=140737488351232):Calls prog 4 #[gY c,.slice ao l.length sc] w fun e w'=>e=.returned (.bool true)/\Z w w':=by
 have hs:=hB.shown;have hb:=hB.good h;have hA:=hA.below hB.dQ;have HB:Hid _:=hB;have hW:=hB.eq;have HA:Hid _:=hA;have HK:Hid _:=hk;have hcf:(newS c).cf=c:=rfl;have hhd:(newS c).hd= -1:=rfl;have hcr:=xV h;have hcl:1<=c.limit/\c.limit<=1048576:=⟨hcr.l0,hcr.l1⟩;have⟨n,hN⟩:=aZ l.length;rw[hN]at hn ⊢;have HN:Hid _:=hN;clear hB hA hk hN h hcr;unfold gY;go_enter func4,ntmps4;go_wp2_with (first
  | (go_at_call 9;refine hs.mono ?_;rintro e w1 ⟨rfl,b1⟩;have⟨q0,q1,q2,q3,q4,q5,q6,q7⟩:=(HB.out.box.below b1).cells)
  | (go_at_call 10;refine(hb _ b1).mono ?_;rintro e w2 ⟨x,rfl,lab,D⟩))
 have HD:Hid _:=D;have⟨s0,hs0⟩:=aZ (newS c);rw[hs0]at HD hcf hhd;have HH0:Hid _:=hhd;clear hs hb hW q0 q1 q2 q3 q4 q5 q6 q7 D b1 hs0 hhd;go_loopg [8,9,10] n (fun gk ho un p wr=>∃(i:Nat) (h u:Int),i+gk=n/\ho=J h/\un=J u/\p=J i/\∃lab s,Dn lab W wr x s/\s.cf=c/\WJ s h u)
 case atStart=>exact⟨0, -1,0,by omega,rfl,rfl,rfl,lab,_,HD.out,hcf,.inl ⟨by rw[HH0.out];decide,rfl⟩⟩
 case round=>
  obtain⟨i,ho,un,hi,rfl,rfl,rfl,la,s,D,hcs,hno⟩:=hrel;have HD:Hid _:=D;have HCS:Hid _:=hcs;have HNO:Hid (WJ s ho un):=hno;clear D hcs hno;by_cases hlt:i<n
  ·have hlt':(i:Int)<n:=ak;by_cases h3:i<400
   ·have h3':(i:Int)<400:=ak;obtain⟨cm,hcm⟩:∃cm,l[i]?=some cm:=⟨_,aY (by rw[HN.out];exact hlt)⟩;have⟨g,o,hao,hcc⟩:=HA.out;obtain rfl:=hao (by rw[HN.out];omega);have hmo:=HK.out cm (dW hcm);have hcl':=fun k v hv=>hcc i cm hcm k v hv;have c0:wr.cell? ⟨g,o+i*8,none⟩=some (J cm.kind):=aR HD.out.dQ (hcl' 0 _ rfl);have c1:=aR HD.out.dQ (hcl' 1 _ rfl);have c2:=aR HD.out.dQ (hcl' 2 _ rfl);have c3:=aR HD.out.dQ (hcl' 3 _ rfl);have c4:=aR HD.out.dQ (hcl' 4 _ rfl);have c5:=aR HD.out.dQ (hcl' 5 _ rfl);have c6:=aR HD.out.dQ (hcl' 6 _ rfl);have c7:=aR HD.out.dQ (hcl' 7 _ rfl);have hsi:=fun V=>Zr (w:=V) hmo;unfold fM at hsi;clear hcl' hao hcc hmo;go_upto_region 13 with(go_at_call 16;refine(hsi _).mono ?_;rintro e w1 ⟨q,lc,ll,rfl,hq,hL,hlo,awU,b1⟩)
    have HL:Hid (uM w1 q ll):=hL;have HQ9:Hid (la q=9):=HD.out.top hq;have HLO:Hid (∀d∈ll,GH d/\asu d):=hlo;have HD1:Hid _:=HD.out.below b1;have⟨m,hm⟩:=aZ ll.length;rw[hm]at awU ⊢;have HM:Hid _:=hm;clear c0 c1 c2 c3 c4 c5 c6 c7 hsi hL hlo b1 hm hq;go_wp2;go_loopg [8,9,12] m (fun gk ho un p wr=>∃(k:Nat) (h u:Int),k+gk=m/\ho=J h/\un=J u/\p=J k/\∃lab s,Dn lab W wr x s/\s.cf=c/\WJ s h u/\uM wr q ll/\lab q=9)
    case atStart=>exact⟨0,ho,un,by omega,rfl,rfl,rfl,la,s,HD1.out,HCS.out,HNO.out,HL.out,HQ9.out⟩
    case round=>
     obtain⟨k,h,u,hk,rfl,rfl,rfl,la1,s1,D1,hcs1,awV,hls,h9⟩:=hrel;have HD2:Hid _:=D1;have ae0:Hid (s1.cf=c):=hcs1;have asv:Hid (WJ s1 h u):=awV;have HLS:Hid (uM wr q ll):=hls;have H9:Hid (la1 q=9):=h9;clear D1 hcs1 awV hls h9 HD1 HNO HCS HL HQ9;by_cases hkm:k<m
     ·have Zq:(k:Int)<m:=ak;obtain⟨d,hd⟩:∃d,ll[k]?=some d:=⟨_,aY (by rw[HM.out];exact hkm)⟩;have⟨⟨nm1,nm2⟩,h1t⟩:=HLO.out d (dW hd);have hcl':=fun i v hv=>HLS.out.2 k d hd i v hv;have hdd:=HD2.out.deed d nm1 nm2;have c0:wr.cell? ⟨q,k*8,none⟩=some (J d.kind):=hcl' 0 _ rfl;have c1:=hcl' 1 _ rfl;have c2:=hcl' 2 _ rfl;have c3:=hcl' 3 _ rfl;have c4:=hcl' 4 _ rfl;have c5:=hcl' 5 _ rfl;have c6:=hcl' 6 _ rfl;have c7:=hcl' 7 _ rfl;have hnd:=fun h0=>ajU HD2.out.kp d h1t h0;have hdc:=apI s1 d;have hkp:=Rm HD2.out.kp d;have⟨r,hr⟩:=aZ (yS s1 d);rw[hr]at hdd hdc hnd hkp;unfold fM at hdd;have HND:Hid (0<=r.1.hd->(r.1.hd=s1.hd->lY r.1<=lY s1)/\(d.kind=4->r.2.code=0->r.1.now<lY r.1)):=hnd;have HDC:Hid _:=hdc;have HKP:Hid (Kept r.1):=hkp;clear hcl' hr hdc hnd hkp h1t;go_upto_region 17 with(first
       | (go_at_call 12;refine hdd.mono ?_;rintro e w4 ⟨v4',rfl,J3,D4,M4,A4⟩;obtain⟨ea,ec,ja,jc,ra,rc,rfl, -⟩:=FC A4)
       | (refine eF rfl 42 (.tmp 13) (.tmp 56) rfl w4.heap.size (d9 r.2 (.slice ea r.2.evs.length ec) (.slice ja r.2.job.set.length jc) (.slice ra r.2.WK.length rc)) gM gM 42 _ (aK w4 _) Tryz.lJ rfl (by simp[d9,Value.oneCell']) ?_;have⟨v4,hv4,bv4,gv4,zv4⟩:=qG w4 #[J 0,J 0,.slice none 0 0,J 0,J 0,J 0,J 0,J 0,J 0,J 0,.slice none 0 0,.slice none 0 0,J 0,O 0,O 0,J 0,J 0,J 0,J 0,J 0,J 0,J 0,J 0,J 0,J 0,J 0,J 0] (d9 r.2 (.slice ea r.2.evs.length ec) (.slice ja r.2.job.set.length jc) (.slice ra r.2.WK.length rc)) 42;rw[hv4];simp only[Act.put]))
      have hst:=(D4.below bv4).state;have⟨ab,hab⟩:=aZ w4.heap.size;have HL4:Hid (uM v4 q ll):=(HLS.out.mv H9.out M4).1.below bv4;have H94:Hid (J3 q=9):=(HLS.out.mv H9.out M4).2;have HD4:Hid _:=D4.below bv4;rw[hab]at gv4 ⊢;have HG4:Hid (v4.heap[ab]?=some (.cells (d9 r.2 (.slice ea r.2.evs.length ec) (.slice ja r.2.job.set.length jc) (.slice ra r.2.WK.length rc)) 42 (0,0))):=gv4;clear c0 c1 c2 c3 c4 c5 c6 c7 hdd D4 M4 A4 gv4 bv4 zv4 hv4 hab HD2 HLS H9;go_upto_region 18 with(first
       | (go_at_call 11;refine hst.mono ?_;rintro e w5 ⟨ua,uc,g5,rfl,b5,qs,T5⟩)
       | (refine eF rfl 32 (.tmp 14) (.tmp 58) rfl w5.heap.size (uL r.1.cf r.1.now (.slice ua r.1.la.length uc) (.slice (some ⟨g5,0,none⟩) r.1.js.length r.1.js.length) r.1.hd) gM gM 32 _ (aK w5 _) Tryz.RH rfl (by simp[uL,Value.oneCell']) ?_;have⟨v5,hv5,bv5,gv5,zv5⟩:=qG w5 #[J 0,J 0,J 0,J 0,J 0,J 0,J 0,J 0,J 0,.slice none 0 0,.slice none 0 0,J 0] (uL r.1.cf r.1.now (.slice ua r.1.la.length uc) (.slice (some ⟨g5,0,none⟩) r.1.js.length r.1.js.length) r.1.hd) 32;rw[hv5]))
      have b45:=b5.trans (bv5.mono b5.size);have HL5:Hid (uM v5 q ll):=HL4.out.below b45;have HD5:Hid _:=HD4.out.below b45;have hnv:=anx HKP.out (T5.below bv5);have⟨bx,hbx⟩:=aZ w5.heap.size;rw[hbx]at gv5 ⊢;have HG5:Hid _:=gv5;have awW:Hid _:=bP HG4.out b45;clear hst hv5 T5 gv5 b5 bv5 zv5 b45 hbx HL4 HD4 HG4;go_upto_region 19 with(first
       | (refine wpList_load_row rfl 32 (.tmp 14) rfl bx rfl 32 _ (0,0) _ HG5.out underlying32 rfl Tryz.RH ?_)
       | (go_at_call 17;refine hnv.mono ?_;rintro e w6 ⟨rfl,b6⟩))
      have JA:w6.cell? ⟨bx,11,none⟩=some (J r.1.hd):=aj (bP HG5.out b6) rfl;have x8:w6.cell? ⟨bx,8,none⟩=some (J r.1.now):=aj (bP HG5.out b6) rfl;have a0:w6.cell? ⟨ab,0,none⟩=some (J r.2.code):=aj (bP awW.out b6) rfl;have k0:w6.cell? ⟨q,k*8,none⟩=some (J d.kind):=(HL5.out.below b6).2 k d hd 0 _ rfl;have q2:w6.cell? ⟨w.heap.size,2,none⟩=some (J c.limit):=(HB.out.box.below (HD5.out.below b6).dQ).cells.2.2.1;have HD6:Hid _:=HD5.out.below b6;have HL6:Hid (uM w6 q ll):=HL5.out.below b6;clear hnv b6 HG5 awW HL5 HD5;by_cases hh:r.1.hd<0
      ·have hh':decide (r.1.hd<0)=true:=dS hh;have HHH:Hid _:=hh;go_wp2;go_roundg (m - (k+1))
       case measure=>omega
       case rel=>exact⟨k+1, -1,u,by omega,rfl,rfl,by go_num,J3,r.1,HD6.out,HDC.out.trans ae0.out,.inl ⟨HHH.out,rfl⟩,HL6.out,H94.out⟩
      ·have⟨p0,y,g1,g2,g3⟩:=(HKP.out.held).resolve_left ak;have hy:r.1.js[r.1.hd.toNat]?=some y:=(by rw[g1,gJ];exact g2);have nv1:=(DK HKP.out ak hy).1;have nv2:=anv HKP.out ak hy;rw[HDC.out,ae0.out]at nv2;have⟨nv3,nv4⟩:=HND.out ak;have hn0:=HKP.out.ok.n0;have hn1:=HKP.out.ok.n1;have akn:Hid (∀h' u',h'=r.1.hd->u'=lY r.1->WJ r.1 h' u'):=fun h' u' e1 e2=>.inr ⟨by omega,e1,e2⟩;have HEQ:Hid (h=r.1.hd->lY r.1<=u):=fun e=>by
        rcases asv.out with⟨h1,h2⟩ | ⟨h1,h2,h3⟩
        ·omega
        ·rw[h3];exact nv3 ak
       have⟨H,hH⟩:=aZ r.1.hd;have⟨T,hT⟩:=aZ (lY r.1);have⟨NW,hNW⟩:=aZ r.1.now;rw[hH]at akn HEQ JA hh;rw[hT]at akn HEQ nv1 nv2 nv4 ⊢;rw[hNW]at nv1 nv2 nv4 x8 hn0 hn1;have HV4:Hid _:=nv4;have HN2:Hid (T<=NW+c.limit):=nv2;clear hH hT hNW nv4 nv3 hy g1 g2 g3 HND asv;have t0:¬T<0:=ak;have t1:¬NW+c.limit<T:=ak;go_upto_region 23 with fail
       go_cut [82] (fun v y=>v=.bool false/\w6=y)
       case first=>
        by_cases z1:d.kind=4
        ·have y2:(d.kind==4)=true:=(by simp[z1]);by_cases z2:r.2.code=0
         ·have z3:¬T<=NW:=by have:=HV4.out z1 z2;omega
          have HZ1:Hid _:=z1;have y3:(r.2.code==0)=true:=(by simp[z2]);have HZ2:Hid _:=z2;clear z1 z2;exact J7
         ·have y3:(r.2.code==0)=false:=(by simpa using z2);have y4:decide (r.2.code=0)=false:=dH z2;have HZ1:Hid _:=z1;clear z1;exact J7
        ·have y2:(d.kind==4)=false:=(by simpa using z1);have y4:decide (d.kind=4)=false:=dH z1;exact J7
       case rest=>
        obtain⟨rfl,rfl⟩:=hcut;clear a0 k0;go_upto_region 25 with fail
        go_cut [91] (fun v y=>v=.bool false/\w6=y)
        case first=>
         by_cases z1:H=h
         ·have z3:¬u<T:=by have:=HEQ.out z1.symm;omega
          have y2:(H==h)=true:=(by simp[z1]);have HZ1:Hid _:=z1;clear z1;exact J7
         ·have y2:(H==h)=false:=(by simpa using z1);have y4:decide (H=h)=false:=dH z1;exact J7
        case rest=>
         obtain⟨rfl,rfl⟩:=hcut;go_upto_region 27 with fail
         by_cases z1:H=h
         ·have y2:(H != h)=false:=(by simp[z1]);have z4:=HEQ.out z1.symm;have HZ1:Hid _:=z1;clear z1;by_cases z3:T<u
          ·exact anM
          ·have e:T=u:=ak;have HE:Hid _:=e;have t2:¬NW+c.limit<u:=ak;clear e;go_wp2;go_roundg (m - (k+1))
           case measure=>omega
           case rel=>exact⟨k+1,H,u,by omega,rfl,rfl,by go_num,J3,r.1,HD6.out,HDC.out.trans ae0.out,akn.out _ _ rfl HE.out.symm,HL6.out,H94.out⟩
         ·have y2:(H != h)=true:=(by simpa using z1);have y4:decide (H=h)=false:=dH z1;exact anM
     ·have Zq:¬(k:Int)<m:=ak;go_wp2;go_roundg (n - (i+1))
      case measure=>omega
      case rel=>exact⟨i+1,h,u,by omega,rfl,rfl,by go_num,la1,s1,HD2.out,ae0.out,asv.out⟩
   ·have h3':¬(i:Int)<400:=ak;exact WX
  ·exact ae7
def Zu (c:Cf) (hT:V8.Tab w/\_root_.Go.Proofs.YtdhifkbbjlhcaaaGreatDoor.Tab w/\N2.Tab w) (hA:uD w ao l) (hk:∀c∈l,GH c) (hn:l.length*80<=140737488351232):Calls prog 4 #[gY c,.slice ao l.length sc] w fun e w'=>e=.returned (.bool true)/\Z w w':=by
 have⟨W,hB⟩:=begins c hT;by_cases h:gq c=0
 ·exact Zt hB h hA hk hn
 ·exact aeA hB h
end
section
open Go.ChangeShapes Go.WideShapes Go.ChangeAt Go.RowKit Go.Joins Wd Ld Cg Tr Lg
def Sd (os:Os) (started:os.Started) (H:Type) (enc:TypeId×Value->H):
  ReturnsInHanded {} Tryz.checked os 4 .any (fun w args=>(Rows.coreNeverSpec.pre enc prog f4 [] false w args/\laidMetH prog uz w)/\sizedMet enc prog f4 (OpenSpec.ofChange Rows.coreNeverSpec) false w args)
   (Rows.coreNeverSpec.post enc prog f4 false true false false):=by
 refine returnsInHanded_of_change_and (C:=Tryz.checked) (X:=fun w _=>laidMetH prog uz w) (fun _ _ _ hh h=>h.of_heap hh) Tryz.own started aF func4
  (ChangeSpec.witness_at (enc:=enc) (C:=Tryz.checked) (os:=os) (X:=fun w _=>laidMetH prog uz w) false (Bp os) #[.agg #[.int .i64 0,.int .i64 0,.int .i64 0,.int .i64 0,.int .i64 0,.int .i64 0,.int .i64 0,.int .i64 0],.slice none 0 0] 4 rfl aF aF aF aF aF (Mw os _)) ?_
 intro W base args ds gs before hval0 hW _ hsz0 hL _;have hsz:(DataW.weightsEach prog (f4.params.toList++Rows.coreNeverSpec.plain.varTypes prog) (ds++gs)).all (· <=reachBytes)=true:=hsz0;have hval:∀(j:Nat) t v,f4.params[j]?=some t->args[j]?=some v->Value.okWide prog W .any base t v:=hval0;have hW':=hW;obtain⟨p,q,hA0,hV,rfl,hfz,hnd⟩:=hW;have hA:DataW.TrodAll enc prog W 0 (fun _=>true) true f4.params.toList args.toList ds p:=hA0;rw[params4]at hA hval hsz;obtain⟨v0,v1,d0,d1,p0,p1,rfl,rfl,rfl,h0,h1⟩:=trodAll_two hA;obtain⟨rfl,rfl⟩:=trodVars_none hV;have hk0:=h0;obtain⟨c,rfl⟩:=ajg (hval 0 23 v0 rfl rfl) h0;have hk1:=h1;obtain⟨ao,n,sc,rfl⟩:=okWide_slice underlying24 (hval 1 24 v1 rfl rfl);obtain⟨fuel1,hf1⟩:=h1;obtain⟨hn,l,rfl,hl,hok⟩:=RP hf1 (fun k hk=>jY (vC.1 hsz k (DataW.weights_mem_each (j:=1) (t:=24) rfl rfl k hk)));clear hA0 hval0;simp only[vW]at hW';have hT:=AO hL;have ajO:∀x∈p0,x.block<W.heap.size:=fun x hx=>hW'.lt x (by simp[hx]);have a0:∀(W':ay),Z W W'->DataW.Trod enc prog W' 0 (fun b=>decide (b<W.heap.size)) true 23 _ d0 p0:=
  fun W' hn=>Below.trod Tryz.laidOut aF (jY aF) hk0 hn ajO
 have hlt1:∀x∈p1,x.block<W.heap.size:=fun x hx=>hW'.lt x (by simp[hx]);have a1:∀(W':ay),Z W W'->DataW.Trod enc prog W' 0 (fun b=>decide (b<W.heap.size)) true 24 _ d1 p1:=
  fun W' hn=>Below.trod Tryz.laidOut aF (jY aF) hk1 hn hlt1
 refine(Zu c hT hl hok hn).mono fun e W' ⟨he,hg⟩=>?_;exact anW
def aeB:Rows.CoreNeverSaid:=
 OpenClaim.holds_of_wide 4 f4 rfl rfl rfl rfl rfl rfl rfl ⟨rfl,rfl,rfl,rfl,rfl⟩ rfl rfl rfl rfl rfl aF func4 R6
  (jY aF) (by unfold Func.isWrapper;first | (rw[aJ (by decide +kernel)];kernel_rfl) | (rw[au (by decide +kernel)];exact⟨rfl,rfl⟩))
  (fun os started H enc _=>Sd os started H enc)
theorem never_holds:Rows.CoreNeverCardSaid:=
 Claim7.holds_tied_plain_at .later [] [.data,.data,.data] true (true, "1052b75edc62fdce1d8e6733364656b1f33caa93aa0fa9595ed0dac812750d56") false
  aeB (fun _ h=>by cases h) (by as_aux_lemma=>kernel_rfl) (fun _ h=>by cases h) coreNever_row_tie rfl ⟨rfl,rfl⟩ (by as_aux_lemma=>kernel_rfl) rfl
  (fun f fn hf hfn=>by
   obtain rfl:f=4:=ji ((show prog.funcNamed "backfill/backfilllaw18.CoreNever" =some 4 by as_aux_lemma=>kernel_rfl).symm.trans hf) |>.symm
   obtain rfl:fn=f4:=(ji (func4.symm.trans hfn)).symm
   exact⟨by as_aux_lemma=>kernel_rfl,fun j t ht=>by
    rw[params4]at ht
    have h3:t=23\/t=24:=by
     exact aoi
    rcases h3 with rfl | rfl
    ·exact W_
    ·exact (show prog.wantsStandIn 24=false by as_aux_lemma=>kernel_rfl)⟩)
  (by as_aux_lemma=>kernel_rfl)
#print axioms starves_holds
#print axioms never_holds
end
end Go.Proofs.YtdhifkbbjlhcaaaGreatDoor
