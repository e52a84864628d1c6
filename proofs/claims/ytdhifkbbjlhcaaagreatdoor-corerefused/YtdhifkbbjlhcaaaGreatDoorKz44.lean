import Derived.Test.YtdhifkbbjlhcaaaGreatDoorKz43
import Derived.Test.YtdhifkbbjlhcaaaGreatDoorKz41
import Derived.Test.YtdhifkbbjlhcaaaGreatDoorKz42
set_option maxRecDepth 20000
set_option maxHeartbeats 16000000
set_option linter.defProp false
namespace Go.Proofs.YtdhifkbbjlhcaaaGreatDoor
open Go.Proofs.Tryz
variable {B F b g x:Nat} {L:List A3.Ag.En} {P:EM} {R:Ending->World->Prop} {S:Nat->Prop} {W w:ay} {cs:Array Value} {jw:List Jv} {l us:List Int} {la:List Tr.Ac} {lab:Nat->Nat} {s:Sv} {sa:Option Addr} {v:Value}
section
open Go.RowKit Wd Tr Cg Ld
section
variable {lab:Nat->Nat} {w:ay} {x:Nat} {c:Cf} {now hd:Int} {la:List Ac} {jw:List Jv} {L:List A3.Ag.En} {F:Nat} {P:EM}
def Zf {w:ay} {d:Nat} {c:Cf} (h:yT S w d c us) (hn:c.nodes<9223372036854775808) (a n:Int):Calls prog 188 #[.pointer (some ⟨d,0,none⟩),J a,J n] w fun e w'=>(∃k,e=.returned (J k))/\yT S w' d c (Lr.Lg.vO us c.nodes a n)/\aH S w w':=by
 obtain⟨v,h1,h2⟩:=h;exact(Lr.Yj h1 hn a n).mono fun e w' ⟨he,h3,h4⟩=>⟨⟨_,he⟩,⟨v,h3,h2⟩,(YP h4).mono (fun j _ hj=>h2 j hj)⟩
def aiS {w:ay} {d:Nat} {c:Cf} (h:yT S w d c us) (hf:Word (Ev c)):Calls prog 190 #[.pointer (some ⟨d,0,none⟩)] w fun e w'=>e=.returned (.tuple #[])/\yT S w' d c (Lu c us)/\aH S w w':=by
 obtain⟨v,h1,h2⟩:=h;exact(Lr.ahw h1 hf).mono fun e w' ⟨he,h3,h4⟩=>⟨he,⟨v,h3,h2⟩,(YP h4).mono (fun j _ hj=>h2 j hj)⟩
def VU (h:iH lab w x c now hd la jw L F P) {js:List Jv} (hL:kY js L) (hm:js.length<=4096):
  Calls prog 187 #[.pointer (some ⟨x,0,none⟩)] w fun e w'=>∃v,e=.returned v/\w'.ownsRow w.heap.size 3 1 v (yO js).length (A3.ints (yO js))/\Z w w':=by
 obtain⟨m,ao,hA,_⟩:=h.due;exact A3.Vt (h.cell rfl) hA (by have:=Bn hL;omega) (L9 hL) (arz js)
def Mh (h:iH lab w x c now hd la jw L F P) (hjs:kY (P.ps.map Pj.v) L) (hm:P.ps.length<=4096) (hn:c.nodes<9223372036854775808):
  Calls prog 146 #[.pointer (some ⟨x,0,none⟩)] w fun e w'=>e=.returned (.tuple #[])/\∃lab',iH lab' w' x c now hd (mE la (gu c.nodes (P.ps.map Pj.v) (Qp (P.ps.map Pj.v)) (nX la))) jw L F P/\Mv lab lab' w w':=by
 have hrun:=VU h hjs (by rw[dL];exact hm)
 have hmem:∀z∈yO (P.ps.map Pj.v),∃(n:Nat) (p:Pj),z=n/\P.ps[n]?=some p:=fun z hz=>by
  unfold yO at hz;obtain⟨n,hn,rfl⟩:=jH.1 hz;obtain⟨j,hj,_⟩:=qN.1 hn;rw[jI]at hj
  cases hp:P.ps[n]? with
  | none=>rw[hp]at hj;cases hj
  | some p=>exact⟨n,p,rfl,hp⟩
 have⟨R,hR⟩:=aZ (Qp (P.ps.map Pj.v));have hZ:yO (P.ps.map Pj.v)=R.map fun n:Nat=>(n:Int):=by unfold yO;rw[hR]
 have hRl:R.length<=4096:=by rw[← hR];have:=xB ko (P.ps.map Pj.v) 0;rw[dL]at this;exact bM this hm
 rw[hZ,dL]at hrun;rw[hZ]at hmem;rw[hR];have H:Hid _:=h;clear h hR hZ hjs;go_enter func146,ntmps146;go_wp2_with (go_at_call 187;refine hrun.mono ?_;rintro e w1 ⟨v,rfl,hrow,b1⟩;obtain⟨va,vc,rfl⟩:=bE hrow)
 have⟨q,hq⟩:=aZ R.length;rw[hq]at hRl hrow ⊢;have hr1:=A3.YT (xs:=R.map fun n:Nat=>(n:Int)) (by rw[dL,hq];exact hrow);obtain⟨ra,rc,rg,ro,re,rh,Iy⟩:=hr1;injection re with re1 re2 re3;subst re1;clear re2 re3;have hg9:∀k,(Value.slice va q vc).ownBlock=some k->w.heap.size<=k/\k<w1.heap.size:=fun k hk=>hrow.lt k hk;have HR1:Hid (∀(j n:Nat),R[j]?=some n->va=some ⟨rg,ro,none⟩/\w1.cell? ⟨rg,ro+j,none⟩=some (J n)/\w.heap.size<=rg/\rg<w1.heap.size):=fun j n hj=>by
  have hl:0<(R.map fun n:Nat=>(n:Int)).length:=by have:=(bO.1 hj).1;rw[dL];omega
  have e:=rh hl;refine⟨e,Iy j n (by rw[jI,hj];rfl),?_⟩;exact hg9 rg (by rw[e];rfl)
 have h1:=H.out.below b1;have M1:Mv lab lab w w1:=Mv.of_below b1;have hl0:=H.out.top;have H1:Hid _:=h1;have Bu:Hid _:=M1;clear h1 M1 hg9 Iy rh hrow H b1 hrun;go_loopg [3,7] q (fun gk u p wr=>∃(k:Nat),k+gk=q/\p=J k/\∃lab',iH lab' wr x c now hd (mE la (gu c.nodes (P.ps.map Pj.v) (R.take k) (nX la))) jw L F P/\Mv lab lab' w1 wr)
 case atStart=>exact⟨0,by omega,rfl,lab,by rw[xL];simp only[gu];rw[TP];exact H1.out,Mv.refl _ _⟩
 case round=>
  obtain⟨k,hk,rfl,oh,h2,M2⟩:=hrel;by_cases hlt:k<q
  ·have hlt':(k:Int)<q:=ak;obtain⟨n,hn'⟩:∃n,R[k]?=some n:=⟨_,aY ak⟩;obtain⟨rfl,rcn,rg1,rg2⟩:=HR1.out k n hn';have⟨n2,p,en,hp⟩:=hmem n (jH.2 ⟨n,dW hn',rfl⟩);obtain rfl:n=n2:=ak;have l9:=(M2.old rg rg2).trans (hl0 rg rg1);have avR:=M2.fF.cell rcn (by unfold Own;rw[hl0 rg rg1];omega);have hz:=h2.below (aA wr);have⟨g,hjo,hg,hgl,hc,hfz⟩:=hz.row.at hp;have hlp:=(bO.1 hp).1;have aGN:(n:Int)<P.ps.length:=ak;have hch:=Zf hz.led hn p.v.ac p.v.nd;have T0:yL x g _ wr.drew wr.drew:=⟨hz.blk,rfl⟩;have yP:nX (mE la (gu c.nodes (P.ps.map Pj.v) (R.take k) (nX la)))=gu c.nodes (P.ps.map Pj.v) (R.take k) (nX la):=Jk (by rw[AJ,Dr]);rw[yP]at hch;have hnext:gu c.nodes (P.ps.map Pj.v) (R.take (k+1)) (nX la)=Lr.Lg.vO (gu c.nodes (P.ps.map Pj.v) (R.take k) (nX la)) c.nodes p.v.ac p.v.nd:=(by rw[kT,hn',Option.toList_some,Iw,jI,hp];rfl);have lx:=hz.lx;have HC0:Hid _:=hc 0 _ rfl;have KL:Hid _:=hc 1 _ rfl;have HZ:Hid _:=hz;have HT0:Hid _:=T0;have vS:Hid _:=M2;have HN:Hid _:=hnext;have HU:Hid (nX (mE la (gu c.nodes (P.ps.map Pj.v) (R.take (k+1)) (nX la)))=gu c.nodes (P.ps.map Pj.v) (R.take (k+1)) (nX la)):=Jk (by rw[AJ,Dr]);clear h2 M2 hz T0 hc hfz hnext yP hp rcn hmem;go_upto_region 3 with fail
   refine aG (S:=(yL x g (cD c now hd P) wr.drew)) (L:=99) aF ?_;have bG:=HT0.out;have HF:Hid (∀xx:ay,(yL x g (cD c now hd P) wr.drew) xx->xx.cell? ⟨x,10,none⟩=some (.pointer (some ⟨P.d,0,none⟩))/\xx.cell? ⟨x,11,none⟩=some (.slice (some ⟨g,0,none⟩) P.ps.length P.cap)/\xx.cell? ⟨g,n*8,none⟩=some (J p.v.ac)/\_/\True):=fun xx bJ=>⟨aj bJ.a rfl,(by rw[← hjo];exact aj bJ.a rfl),fI HC0.out bJ.r,fI KL.out bJ.r,trivial⟩;refine tk 0 ?_;refine tk 1 ?_;refine tk 2 ?_;refine tk 3 ?_;refine tk 4 ?_;refine tk 5 ?_;refine tk 6 ?_;refine tk 7 ?_;refine tk 8 ?_;refine tk 9 ?_;refine tk 10 ?_;refine tk 11 ?_;refine tk 12 ?_;refine tk 13 ?_;refine tk 14 ?_;refine tk 15 ?_;refine tk 16 ?_;refine tk 17 ?_;refine tk 18 ?_;refine tk 19 ?_;refine last_one (i:=20) aF rfl ?_;intro K hK;go_simp;go_at_call 188;refine(hch).mono ?_;rintro e w3 ⟨⟨k0,rfl⟩,hL3,k3⟩;have jG:(yL x g (cD c now hd P) wr.drew) w3:=⟨(k3.block x HZ.out.xlt (by rw[lx];decide)).trans HZ.out.blk,k3.block g hgl (by rw[hg];decide)⟩;go_simp;refine jE hK jG ?_;clear hK K bG;refine aO aF ?_ _;go_wp2;go_roundg (q - (k+1))
   case measure=>omega
   case rel=>refine⟨k+1,by omega,by go_num,_,HZ.out.set2 k3 (la':=mE la (gu c.nodes (P.ps.map Pj.v) (R.take (k+1)) (nX la))) (by rw[qm,qm]) ?_,(vS.out.below (aA wr)).trans (Mv.lift aT k3)⟩;rw[HU.out,HN.out];exact hL3.mono (fun _ _ h=>.inl h)
  ·have hlt':¬(k:Int)<q:=ak;obtain rfl:k=q:=ak;rw[← hq,oC]at h2;have H2:Hid _:=h2;have vS:Hid _:=M2;clear h2 M2;go_wp2;go_end0
   exact⟨rfl,oh,H2.out,Bu.out.trans vS.out⟩
end
end
section
open Go.RowKit Wd Tr Cg Ld
section
variable {lab:Nat->Nat} {w:ay} {x:Nat} {c:Cf} {now hd:Int} {la:List Ac} {jw:List Jv} {L:List A3.Ag.En} {F:Nat} {P:EM}
def VW (c:Cf) (now:Int) (la:List Ac):List Ac:=if now % c.period=0 then mE la (Lu c (nX la))else la
def O9 (c:Cf) (now:Int):List Hg:=if now % c.period=0 then [⟨7,0,now,0,0,[]⟩]else []
def adR (c:Cf) (us:List Int):(Lu c us).length=us.length:=by grind[Lu,Lr.Lg.pK]
def adS (h:iH lab w x c now hd la jw L F P) (hp:1<=c.period) (hp2:c.period<=1125899906842624) (hn0:0<=now) (hf:Word (Ev c)):
  Calls prog 148 #[.pointer (some ⟨x,0,none⟩)] w fun e w'=>∃v,e=.returned v/\∃lab',iH lab' w' x c now hd (VW c now la) jw L F P/\Mv lab lab' w w'/\Ru lab' w.heap.size w' v (O9 c now):=by
 have hz:=h.below (aA w);have T0:yL x x _ w.drew w.drew:=⟨hz.blk,rfl⟩;have aaV:=aiS hz.led hf;have hp0:¬c.period=0:=ak;have e1:now.tmod c.period=now % c.period:=Int.tmod_eq_emod_of_nonneg hn0;have e2:=yC now hp0;have e3:=yD now (show 0<c.period by omega);have kw:IntKind.i64.wrap (now.tmod c.period)=now % c.period:=by rw[e1,fO];omega
 have lx:=hz.lx;have HZ:Hid _:=hz;have HT0:Hid _:=T0;clear h hz T0;unfold VW O9;go_enter func148,ntmps148;go_upto_region 1 with fail
 refine aG (S:=(yL x x (cD c now hd P) w.drew)) (L:=99) aF ?_;have bG:=HT0.out;have HF:Hid (∀xx:ay,(yL x x (cD c now hd P) w.drew) xx->xx.cell? ⟨x,8,none⟩=some (J now)/\xx.cell? ⟨x,6,none⟩=some (J c.period)/\True):=fun xx bJ=>⟨aj bJ.a rfl,aj bJ.a rfl,trivial⟩;refine tk 0 ?_;refine tk 1 ?_;refine tk 2 ?_;refine tk 3 ?_;refine tk 4 ?_;refine tk 5 ?_;refine tk 6 ?_;refine tk 7 ?_;refine tk 8 ?_;refine tk 9 ?_;refine tk 10 ?_;refine aO aF ?_ _;clear bG;by_cases h0:now % c.period=0
 ·rw[h0]at kw;have h2:w.drew.cell? ⟨x,10,none⟩=some (.pointer (some ⟨P.d,0,none⟩)):=HZ.out.cell rfl;go_wp2_with (go_at_call 190;refine aaV.mono ?_;rintro e w3 ⟨rfl,hL3,k3⟩;have q8:w3.cell? ⟨x,8,none⟩=some (J now):=aj ((k3.block x HZ.out.xlt (by rw[lx];decide)).trans HZ.out.blk) rfl)
  go_ret;have h3:=HZ.out.set2 k3 (la':=mE la (Lu c (nX la))) (by rw[qm]) (by rw[Jk (by rw[adR,Dr])];exact hL3.mono (fun _ _ h=>.inl h));have b4:Z w3 (w3.alloc (.cells #[J 7,J 0,J now,J 0,J 0,.slice none 0 0] 65)):=dY;have hsz:w.heap.size<=w3.heap.size:=k3.size;refine⟨_,rfl,_,h3.below b4,(((Mv.of_below (aA w)).trans (Mv.lift aT k3)).below b4),?_⟩;exact Rv (e:=⟨7,0,now,0,0,[]⟩) (aK w3 _) (h3.top _ (aC _)) hsz rfl
 ·have d0:=dH h0;have q0:(now % c.period==0)=false:=by simpa using h0
  rw[kw]at *;go_wp2;go_ret;refine⟨_,rfl,lab,HZ.out,Mv.of_below (aA w),?_⟩;exact vo _ _ _
end
end
section
open Go.RowKit Wd Tr Cg Ld
def AL (now:Int):∀(l:List Nat) (n:Nat) (js:List Jv),mQ now (l++ [n]) js=bX (mQ now l js) n (fQ 4 now)
 | [],n,js=>rfl
 | m::l,n,js=>by rw[mP];unfold mQ;exact AL now l n _
structure KlT (lab:Nat->Nat) (W:ay) (x:Nat) (c:Cf) (now hd:Int) (la:List Ac) (js:List Jv) (L:List A3.Ag.En) (l:List Nat) (P:EM):Prop where
 cr:∃F,iH lab W x c now hd la (mQ now l js) L F P/\kH c (mQ now l js) F
 ps:P.ps.map Pj.v=mQ now l js
 apt:Apt c (mQ now l js)
def iH.avS {W W':ay} {c:Cf} {now hd:Int} {L L':List A3.Ag.En} (h:iH lab W x c now hd la jw L F P) (k:aH (fun k=>lab k=5) W W') (hn:AgX (fun k=>lab k=5) W' P.a L'):iH lab W' x c now hd la jw L' F P:=by
 have hb:∀j,j<W.heap.size->lab j≠5->W'.heap[j]?=W.heap[j]?:=by grind[aH.block]
 have hg:∀j,j<5->W'.heap[j]?=W.heap[j]?:=by grind[Gv,gl]
 have hs:=k.size;exact⟨(hb x h.xlt (by rw[h.lx];omega)).trans h.blk,h.lx,h.tree.kept (fun j hj hl=>hb j hj ak),h.led.kept (fun j hj hl=>hb j hj ak),h.row.kept (fun j hj hl=>hb j hj ak),fun p hp=>(h.sets p hp).kept hs (fun j hj hl=>hb j hj ak),h.wait.same (hb _ h.wait.lt (by rw[h.lw];omega)),h.lw,hn,uw h.free (hb _ h.free.lt (by rw[h.lb];omega)) (hg _ ak),h.lb,h.gl,sF h.vt (hg _ ak),sG h.rt (hg _ ak),fun k hk=>h.top k ak⟩
theorem Mv.own {i:Nat} (hi:i<=6) {w w':ay} (k:aH (fun k=>lab k=i) w w'):Mv lab lab w w':=⟨fun _ _=>rfl,k.mono (fun _ _ h=>by unfold Own;omega)⟩
theorem Mv.grown {lab lab':Nat->Nat} {w W W':ay} (h:Mv lab lab' w W) {row:Option Nat} (g:W.grownBy W' row) (hr:∀k,row=some k->w.heap.size<=k):Mv lab lab' w W':=⟨h.old,⟨g.os.trans h.fF.os,g.tape.trans h.fF.tape,g.output.trans h.fF.output,bM h.fF.size g.size,fun i hi hK=>(g.block i (gL hi h.fF.size) (fun e=>by grind)).trans (h.fF.block i hi hK)⟩⟩
theorem iH.grown {W W':ay} {c:Cf} {now hd:Int} (h:iH lab W x c now hd la jw L F P) {row:Option Nat} (g:W.grownBy W' row) (hr:∀k,row=some k->lab k=9/\5<=k):iH lab W' x c now hd la jw L F P:=h.fF (K:=fun k=>row=some k) ⟨g.os,g.tape,g.output,g.size,fun i hi hne=>g.block i hi (fun e=>hne e.symm)⟩ (fun k hk=>hr k hk)
def yu.base {B B':Nat} {ps:List Pe} (h:yu lab B W v ps) (hB:B'<=B):yu lab B' W v ps:=⟨iL h.row hB,h.l9,fun p hp=>⟨(h.mI p hp).at_,(h.mI p hp).nil,(h.mI p hp).cap,fun g o k e=>by have⟨h1,h2,h3,h4⟩:=(h.mI p hp).own g o k e;grind⟩,h.off⟩
def aiT (h:iH lab w x s.cf (s.now+1) s.hd la s.js L F P) (v:Kept s) (hps:P.ps.map Pj.v=s.js) (hL:kY s.js L) (hF:kH s.cf s.js F):
  Calls prog 147 #[.pointer (some ⟨x,0,none⟩)] w fun e w'=>∃u,e=.returned u/\∃ps:List Pe,ps.map Pe.v=(qo (s.now+1) s.js).map (fun n=>gV n 4 (s.now+1))/\∃lab' F' P',iH lab' w' x s.cf (s.now+1) s.hd la (mQ (s.now+1) (qo (s.now+1) s.js) s.js) (A3.Ag.mR (s.now+1) L) F' P'/\P'.ps.map Pj.v=mQ (s.now+1) (qo (s.now+1) s.js) s.js/\kH s.cf (mQ (s.now+1) (qo (s.now+1) s.js) s.js) F'/\Mv lab lab' w w'/\yu lab' w.heap.size w' u ps:=by
 have hz:=h.below (aA w);have⟨m,ao,hA,hAk⟩:=hz.due;have hLl:=Bn hL;have kI:=v.ok.many;have VX:=A3.au8 hA (s.now+1) ak;have Yw:=Zd v hL;have hlen:(A3.Ag.vT (s.now+1) L).length=(qo (s.now+1) s.js).length:=by have:=aP List.length Yw;simpa [Zc]using this
 rw[Yw,hlen]at VX;have hdel:=fun n (hn:n∈qo (s.now+1) s.js)=>aiQ (now:=s.now+1) hL hn;have hnd:=CW (BD (s.now+1)) s.js;have aiU:∀n∈qo (s.now+1) s.js,∃j,s.js[n]?=some j/\j.st=2:=fun n hn=>by have⟨j,h1,h2⟩:=qN.1 hn;unfold BD at h2;simp only[lW,nS]at h2;exact⟨j,h1,h2.1⟩
 have hDl:(qo (s.now+1) s.js).length<=4096:=bM (xB _ _ _) v.ok.many;have aAy:=v.apt;have hn0:=v.rng.n0;have lx:=hz.lx;have T0:yL x x _ w.drew w.drew:=⟨hz.blk,rfl⟩;have⟨D,hD⟩:=aZ (qo (s.now+1) s.js);have hZ:Zc (s.now+1) s.js=D.map fun n:Nat=>(n:Int):=by unfold Zc;rw[hD]
 rw[hZ]at VX;rw[hD]at VX hdel aiU hDl ⊢;replace hnd:D.Nodup:=by rw[← hD];exact hnd
 have HZ:Hid _:=hz;have HT0:Hid _:=T0;have hl0:=h.top;clear h hz T0 hZ hD Yw hlen hA hL v;go_enter func147,ntmps147;go_upto_region 2 with fail
 refine aG (S:=(yL x x (coreC s.cf (s.now+1) P.t P.d P.jo P.ps.length P.cap s.hd P.wm P.a P.b) w.drew)) (L:=99) aF ?_;have bG:=HT0.out;have HF:Hid (∀xx:ay,(yL x x (coreC s.cf (s.now+1) P.t P.d P.jo P.ps.length P.cap s.hd P.wm P.a P.b) w.drew) xx->xx.cell? ⟨x,8,none⟩=some (J (s.now+1))/\xx.cell? ⟨x,14,none⟩=some (.pointer (some ⟨P.a,0,none⟩))/\True):=fun xx bJ=>⟨aj bJ.a rfl,aj bJ.a rfl,trivial⟩;refine tk 0 ?_;refine tk 1 ?_;refine tk 2 ?_;refine tk 3 ?_;refine tk 4 ?_;refine tk 5 ?_;refine tk 6 ?_;refine tk 7 ?_;refine tk 10 ?_;refine last_one (i:=8) aF rfl ?_;intro K hK;go_simp;go_at_call 189;refine(VX).mono ?_;rintro e w1 ⟨v1,rfl,hrow,hA1,k0⟩;have k1:=(YQ k0).mono (fun j _ hj=>hAk j hj);obtain⟨va,vc,rfl⟩:=bE hrow;have lH:(yL x x (coreC s.cf (s.now+1) P.t P.d P.jo P.ps.length P.cap s.hd P.wm P.a P.b) w.drew) w1:=⟨(k1.block x HZ.out.xlt (by rw[lx];decide)).trans HZ.out.blk,k1.block x HZ.out.xlt (by rw[lx];decide)⟩;go_simp;refine jE hK lH ?_;clear hK K bG;refine tk 9 ?_;refine aO aF ?_ _;have h1:=HZ.out.avS k1 ⟨m,ao,hA1,hAk⟩;have M1:=(Mv.of_below (aA w)).trans (Mv.own aT k1);have⟨q,hq⟩:=aZ D.length;rw[hq]at hrow hDl ⊢;have hr1:=A3.YT (xs:=D.map fun n:Nat=>(n:Int)) (by rw[dL,hq];exact hrow);obtain⟨ra,rc,rg,ro,re,rh,Iy⟩:=hr1;injection re with re1 re2 re3;subst re1;clear re2 re3;have hg9:∀k,(Value.slice va q vc).ownBlock=some k->w.heap.size<=k/\k<w1.heap.size:=fun k hk=>hrow.lt k hk;have hz1:w.heap.size<=w1.heap.size:=k1.size;have HR1:Hid (∀(j n:Nat),D[j]?=some n->va=some ⟨rg,ro,none⟩/\w1.cell? ⟨rg,ro+j,none⟩=some (J n)/\rg<w1.heap.size/\lab rg=9):=fun j n hj=>by
  have hl:0<(D.map fun n:Nat=>(n:Int)).length:=by have:=(bO.1 hj).1;rw[dL];omega
  have e:=rh hl;have h3:=hg9 rg (by rw[e];rfl);refine⟨e,Iy j n (by rw[jI,hj];rfl),h3.2,hl0 rg h3.1⟩
 have H1:Hid _:=h1;have Bu:Hid _:=M1;clear h1 M1 hg9 Iy rh hrow k0 lH HZ HT0 VX hA1;go_wp2;go_loopg [3,5,16] q (fun gk ev u p wr=>∃(k:Nat),k+gk=q/\p=J k/\∃lab' P' ps,KlT lab' wr x s.cf (s.now+1) s.hd la s.js (A3.Ag.mR (s.now+1) L) (D.take k) P'/\Mv lab lab' w1 wr/\yu lab' w1.heap.size wr ev ps/\ps.map Pe.v=(D.take k).map (fun n=>gV n 4 (s.now+1)))
 case atStart=>exact⟨0,by omega,rfl,lab,P,[],⟨⟨F,by rw[xL];exact H1.out,by rw[xL];exact hF⟩,by rw[xL];exact hps,by rw[xL];exact aAy⟩,Mv.refl _ _,Ry _ _ _,by rw[xL];rfl⟩
 case round=>
  obtain⟨k,hk,rfl,oh,P2,ps,hT,M2,hE,hEv⟩:=hrel;by_cases hlt:k<q
  ·have hlt':(k:Int)<q:=ak;obtain⟨n,hn'⟩:∃n,D[k]?=some n:=⟨_,aY ak⟩;obtain⟨rfl,rcn,rg2,rl⟩:=HR1.out k n hn';have avR:=M2.fF.cell rcn (by unfold Own;rw[rl];omega);have⟨F2,h2,hF2⟩:=hT.cr;have hnD:=dW hn';have⟨j,hj,hj2⟩:=aiU n hnD;have hnt:n∉D.take k:=fun hin=>by have⟨i,hi,ei⟩:=List.getElem_of_mem hin;rw[vX]at hi;rw[List.getElem_take]at ei;have hkD:k<D.length:=ak;have ek:D[k]=n:=(bO.1 hn').2;have:=(tF.1 hnd) i k ak hkD ak;exact this (by rw[ei,ek])
   have hjk:(mQ (s.now+1) (D.take k) s.js)[n]?=some j:=by rw[Ra (List.Pairwise.sublist (List.take_sublist _ _) hnd) n,au hnt];exact hj
   obtain⟨p,hp,rfl⟩:∃p,P2.ps[n]?=some p/\p.v=j:=by have:=hjk;exact an3
   have hnl:n<=1000000:=by have:=(bO.1 hj).1;omega
   have hstop:=LP h2 hp hnl 4;rw[hdel n hnD]at hstop;have hpl:ps.length<=4096:=(by have:=aP List.length hEv;simp at this;omega);have⟨i0,hi0,hi1,hi2,hi3⟩:=fA Tryz.aiG;obtain⟨ea,ec,rfl⟩:=bE hE.row;have HE:Hid _:=hE;have vS:Hid _:=M2;have HT:Hid _:=hT;have HJK:Hid _:=hjk;have MW:Hid _:=hF2;have HEV:Hid _:=hEv;have hwz:=M2.fF.size;have hg5:5<=w1.heap.size:=(by have:=h2.Gv;have:=H1.out.Gv;omega);clear hT M2 hE h2 hj hjk hF2 rcn hEv aiU;go_wp2_with (first
    | (go_at_call 105;refine hstop.mono ?_;rintro e w3 ⟨rfl,xw,h3,M3⟩;have H3:Hid _:=h3;have yK:Hid _:=M3;have HE3:Hid _:=HE.out.mv M3;have hz3:=M3.fF.size;clear h3 M3;unfold yX aV)
    | (at_builtin;refine jD rfl (.tmp 20) (.tmp 24) 35 rfl w1.heap.size 65 i0 _ 6 64 underlying35 hi0 hi1 hi2 hi3 rfl aT (.slice ea ps.length ec) ps.length (iE ps) gM (Cv HE3.out.row _) (some ⟨w3.heap.size,0,none⟩) 1 1 (iE [⟨gV n 4 (s.now+1),none,0⟩]) gM (fun e=>by cases e) rfl (fun ad e=>by cases e;exact vI (cs:=yX (gV n 4 (s.now+1)) aV) (aK w3 _)) (qD _) (by unfold maxLen;omega) ak fE ?_;intro v5 w5 Mi hgr5 aiV;obtain⟨ea5,ec5,rfl⟩:=bE Mi))
   have H3b:=H3.out.below (W':=w3.alloc (.cells #[J (gV n 4 (s.now+1)).kd,J (gV n 4 (s.now+1)).jb,J (gV n 4 (s.now+1)).at_,J (gV n 4 (s.now+1)).nd,J (gV n 4 (s.now+1)).lm,.slice none 0 0] 65)) dY;have hEb:=HE3.out.below (W':=w3.alloc (.cells #[J (gV n 4 (s.now+1)).kd,J (gV n 4 (s.now+1)).jb,J (gV n 4 (s.now+1)).at_,J (gV n 4 (s.now+1)).nd,J (gV n 4 (s.now+1)).lm,.slice none 0 0] 65)) dY;have hE5:=hEb.app (B':=w3.heap.size) (qs:= [⟨gV n 4 (s.now+1),none,0⟩]) ak (fun g hg=>(HE3.out.lt hg).2) (fun p hp=>by simp at hp;subst hp;exact jV _ _ _) (H3.out.top _ dF) Mi hgr5 aiV;have hrw:∀g,(Value.slice ea ps.length ec).ownBlock=some g->xw g=9/\5<=g:=fun g hg=>⟨HE3.out.l9 g hg,by have:=(HE3.out.lt hg).1;omega⟩;have h5:=H3b.grown hgr5 hrw;have M5:=((vS.out.trans yK.out).below (w2:=w3.alloc (.cells #[J (gV n 4 (s.now+1)).kd,J (gV n 4 (s.now+1)).jb,J (gV n 4 (s.now+1)).at_,J (gV n 4 (s.now+1)).nd,J (gV n 4 (s.now+1)).lm,.slice none 0 0] 65)) dY).grown hgr5 (fun g hg=>(HE3.out.lt hg).1);have etk:D.take (k+1)=D.take k++ [n]:=(by rw[kT,hn'];rfl);have H5:Hid _:=h5;have IZ:Hid _:=M5;have HE5:Hid _:=hE5;clear h5 M5 hE5 H3b hEb Mi hgr5 aiV hstop;go_wp2;go_roundg (q - (k+1))
   case measure=>omega
   case rel=>
    refine⟨k+1,by omega,by go_num,xw,_,_,⟨⟨_,by rw[etk,AL];exact H5.out.rew (jq.aiF (f:=fQ 4 (s.now+1)) H5.out.wait HJK.out ak (by show (4:Int)≠1;decide)),by rw[etk,AL];exact aiO hn0 HT.out.apt MW.out HJK.out hj2 (by show (4:Int)≠2;decide)⟩,?_,by rw[etk,AL];exact HT.out.apt.cut HJK.out (by show (4:Int)≠2;decide)⟩,IZ.out,HE5.out,?_⟩
    ·rw[etk,AL,<-HT.out.ps];exact LJ hp _ rfl
    ·rw[etk,p9,p9,HEV.out];rfl
  ·have hlt':¬(k:Int)<q:=ak;obtain rfl:k=q:=ak;rw[← hq,oC]at hT hEv;have HT:Hid _:=hT;have vS:Hid _:=M2;have HE:Hid _:=hE;have HEV:Hid _:=hEv;clear hT M2 hE hEv;go_wp2;go_ret;have⟨F2,h2,hF2⟩:=HT.out.cr;exact⟨_,rfl,ps,HEV.out,oh,F2,P2,h2,HT.out.ps,hF2,Bu.out.trans vS.out,HE.out.base hz1⟩
def VY:∀(l:List Ac) (n:Nat) (a:Ac) (x:Int),l[n]?=some a->(dP l).set (n*5+4) (O x)=dP (l.set n {a with us:=x})
 | [],n,a,x,h=>by grind
 | b::l,0,a,x,h=>by simp at h;subst h;rfl
 | b::l,n+1,a,x,h=>by
  have:=VY l n a x (by grind);rw[show (n+1)*5+4=n*5+4+1+1+1+1+1 by omega];simp only[dP,jg,this]
def Mj (la:List Ac) (k:Nat):List Ac:=la.take k++(la.drop k).map aB
def aiW (la:List Ac):Mj la 0=la.map aB:=by simp[Mj]
def amQ (la:List Ac):Mj la la.length=la:=by simp[Mj]
def aiX {k:Nat} {a:Ac} (h:la[k]?=some a):(Mj la k)[k]?=some (aB a):=by
 grind[Mj]
def aiY {k:Nat} {a:Ac} (h:la[k]?=some a):(Mj la k).set k a=Mj la (k+1):=by
 grind[tu,Mj,vX,kT]
def amR {B t size g n cap:Nat} {xs:List Value} (h:W.ownsRow B t size (.slice (some ⟨g,0,none⟩) n cap) n xs) (k:Nat) (v:Value):(W.setCell ⟨g,k,none⟩ v).ownsRow B t size (.slice (some ⟨g,0,none⟩) n cap) n (xs.set k v):=by
 rcases h.2 with⟨e,_⟩ | ⟨g',cp,cur,e,hb,hg,h1,h2,h3,h4⟩
 ·grind
 ·injection e with e1 e2 e3;injection e1 with e1;injection e1 with e1;subst e1;subst e3;have e5:=bS W g k cur t v hg;refine⟨by rw[Fz];exact h.1,.inr ⟨g,cap,_,rfl,hb,e5,h1,h2,by grind,?_⟩⟩;grind[List.take_set]
def amS {d:Nat} {c:Cf} (h:yT S w d c us) (a:Int):Calls prog 96 #[.pointer (some ⟨d,0,none⟩),J a] w fun e w'=>e=.returned (O (Lr.Lg.FT us a))/\w'=w:=by
 obtain⟨v,h1,_⟩:=h;exact Lr.aat h1 a
section
variable {lab:Nat->Nat} {w:ay} {x:Nat} {c:Cf} {now hd:Int} {la:List Ac} {jw:List Jv} {L:List A3.Ag.En} {F:Nat} {P:EM}
def xC (h:iH lab w x c now hd la jw L F P) (hw:Wf (la.map aB)) (hl0:la≠ []) (kI:la.length<=1000000):
  Calls prog 50 #[.pointer (some ⟨x,0,none⟩)] w fun e w'=>∃u,e=.returned u/\w'.ownsRow w.heap.size 58 5 u la.length (dP la)/\Z w w':=by
 have hlist:=apd h.tree hw;rw[dL]at hlist;have x9:w.cell? ⟨x,9,none⟩=some (.pointer (some ⟨P.t,0,none⟩)):=h.cell rfl;have hmx:=aiW la;have⟨q,hq⟩:=aZ la.length;have hq0:0<q:=by cases la with | nil=>exact absurd rfl hl0 | cons=>rw[← hq];simp
 rw[hq]at hlist kI ⊢;have H:Hid _:=h;have HX:Hid _:=hmx;have HQ:Hid _:=hq;clear h hmx hq hw hl0;go_enter func50,ntmps50;go_wp2_with (go_at_call 44;refine hlist.mono ?_;rintro e w1 ⟨v1,rfl,hrow,b1⟩;rw[← HX.out]at hrow;obtain⟨g,cap,rfl,hg0⟩:∃g cap,v1=.slice (some ⟨g,0,none⟩) q cap/\w.heap.size<=g:=(by
  rcases hrow.2 with⟨_,h0⟩ | ⟨g,cp,cur,e,hb,_⟩
  ·omega
  ·exact ⟨g,cp,e,hb⟩))
 have HR:Hid _:=hrow;have HB:Hid _:=b1;clear hrow b1;go_loopg [4,12] q (fun gk u p wr=>∃(k:Nat),k+gk=q/\p=J k/\wr.ownsRow w.heap.size 58 5 (.slice (some ⟨g,0,none⟩) q cap) q (dP (Mj la k))/\Z w wr)
 case atStart=>exact⟨0,by omega,rfl,HR.out,HB.out⟩
 case round=>
  obtain⟨k,hk,rfl,hr2,b2⟩:=hrel;by_cases hlt:k<q
  ·have hlt':(k:Int)<q:=ak;obtain⟨a,ha⟩:∃a,la[k]?=some a:=⟨_,aY (by rw[HQ.out];exact hlt)⟩;have h2:=H.out.below b2;have x10:wr.cell? ⟨x,10,none⟩=some (.pointer (some ⟨P.d,0,none⟩)):=h2.cell rfl;have hown:=amS h2.led (k:Int);have eu:Lr.Lg.FT (nX la) (k:Int)=a.us:=Lr.aht (by unfold nX;rw[jI,ha];rfl);rw[eu]at hown;obtain⟨cg,fz⟩:(∃v,wr.cell? ⟨g,k*5+4,none⟩=some v)/\wr.frozen? ⟨g,k*5+4,none⟩=false:=by
    rcases hr2.2 with⟨e,_⟩ | ⟨g',cp,cur,e,hb,hg,h1,h2,h3,h4⟩
    ·cases e
    ·injection e with e1 e2 e3;injection e1 with e1;injection e1 with e1;subst e1;have e0:=(D8 (Mj la k) k _ (aiX ha)).2.2.2.2;rw[← h4,List.getElem?_take_of_lt ak,Array.getElem?_toList]at e0;exact⟨⟨_,aj hg e0⟩,aD hg⟩
   obtain⟨cv,cg⟩:=cg;have hr3:=amR hr2 (k*5+4) (O a.us);rw[VY _ k _ a.us (aiX ha)]at hr3;have ea:{aB a with us:=a.us}=a:=rfl;rw[ea,aiY ha]at hr3;have HR3:Hid _:=hr3;have b3:Z w (wr.setCell ⟨g,k*5+4,none⟩ (O a.us)):=b2.setCell (p:=⟨g,k*5+4,none⟩) hg0 _;have HB3:Hid _:=b3;clear hr2 b2 h2 hr3 b3 ha eu;go_wp2_with (go_at_call 96;refine hown.mono ?_;rintro e w3 ⟨rfl,rfl⟩)
   go_roundg (q - (k+1))
   case measure=>omega
   case rel=>exact⟨k+1,by omega,by go_num,HR3.out,HB3.out⟩
  ·have hlt':¬(k:Int)<q:=ak;obtain rfl:k=q:=ak;rw[← HQ.out,amQ]at hr2;have HR2:Hid _:=hr2;have HB2:Hid _:=b2;clear hr2 b2;go_wp2;go_ret;rw[← HQ.out];exact⟨_,rfl,HR2.out,HB2.out⟩
theorem Tryz.RH:(prog.info? 32).map (·.size)=some 12:=aF
def amT (h:W.heap[b]?=some (.cells cs 32 (0,0))) (hs:cs.size=12):(loadVar 32 ⟨b,0,none⟩).run prog W=.ok (.agg cs) W:=by
 grind[Fy,underlying32,Tryz.RH]
def aiZ {f:Func} {r:Nat} {a:Act} {old cs:Array Value} (hf:f.results= #[ResultVar.cell r 32]) (ht:a.tmps[r]?=some (.pointer (some ⟨b,0,none⟩))) (hd:a.defers= []) (hg:W.heap[b]?=some (.cells old 32 (0,0))) (hs:cs.size=12) (hR:R (.returned (.agg cs)) (W.setRow b cs)):bodyPost prog f R .ret a (W.setRow b cs):=
 b_ (v:=.agg cs) (AA hf ht (amT (xI W b old cs _ _ hg) hs)) hd hR
def Mk (h:iH lab w x c now hd la jw L F P) (hw:Wf (la.map aB)) (hl0:la≠ []) (kI:la.length<=1000000):
  Calls prog 27 #[.pointer (some ⟨x,0,none⟩)] w fun e w'=>∃u,e=.returned (.agg (uL c now u (.slice P.jo P.ps.length P.cap) hd))/\w'.ownsRow (w.heap.size+1) 58 5 u la.length (dP la)/\Z w w':=by
 have⟨W,hW⟩:=aZ (w.alloc (.cells #[J 0,J 0,J 0,J 0,J 0,J 0,J 0,J 0,J 0,.slice none 0 0,.slice none 0 0,J 0] 32));have bW:Z w W:=by rw[← hW];exact dY
 have oz:W.heap.size=w.heap.size+1:=by rw[← hW];simp
 have hG:W.heap[w.heap.size]?=some (.cells #[J 0,J 0,J 0,J 0,J 0,J 0,J 0,J 0,J 0,.slice none 0 0,.slice none 0 0,J 0] 32 (0,0)):=by rw[← hW];exact aK w _
 have hz:=(h.below bW).below (aA W);have hacc:=xC hz hw hl0 kI;have hxl:=h.xlt;have T0:yL x x _ W.drew W.drew:=⟨hz.blk,rfl⟩;have HZ:Hid _:=hz;have HT0:Hid _:=T0;have HB:Hid _:=bW;have HG:Hid (W.drew.heap[w.heap.size]?=some (.cells #[J 0,J 0,J 0,J 0,J 0,J 0,J 0,J 0,J 0,.slice none 0 0,.slice none 0 0,J 0] 32 (0,0))):=hG;have HZW:Hid (W.drew.heap.size=w.heap.size+1):=oz;clear h hz T0 bW hG oz hw hl0 kI;unfold uL;go_enter func27,ntmps27;go_upto_region 1 with fail
 refine aG (S:=(yL x x (cD c now hd P) W.drew)) (L:=99) aF ?_;have bG:=HT0.out;have HF:Hid (∀xx:ay,(yL x x (cD c now hd P) W.drew) xx->xx.cell? ⟨x,0,none⟩=some (J c.nodes)/\xx.cell? ⟨x,1,none⟩=some (J c.queue)/\xx.cell? ⟨x,2,none⟩=some (J c.limit)/\xx.cell? ⟨x,3,none⟩=some (J c.age)/\xx.cell? ⟨x,4,none⟩=some (J c.fair)/\xx.cell? ⟨x,5,none⟩=some (J c.size)/\xx.cell? ⟨x,6,none⟩=some (J c.period)/\xx.cell? ⟨x,7,none⟩=some (J c.half)/\xx.cell? ⟨x,8,none⟩=some (J now)/\xx.cell? ⟨x,11,none⟩=some (.slice P.jo P.ps.length P.cap)/\xx.cell? ⟨x,12,none⟩=some (J hd)/\True):=fun xx bJ=>⟨aj bJ.a rfl,aj bJ.a rfl,aj bJ.a rfl,aj bJ.a rfl,aj bJ.a rfl,aj bJ.a rfl,aj bJ.a rfl,aj bJ.a rfl,aj bJ.a rfl,aj bJ.a rfl,aj bJ.a rfl,trivial⟩;refine tk 0 ?_;refine tk 1 ?_;refine tk 2 ?_;refine tk 3 ?_;refine tk 4 ?_;refine tk 5 ?_;refine tk 6 ?_;refine tk 7 ?_;refine tk 8 ?_;refine tk 10 ?_;refine tk 11 ?_;refine tk 12 ?_;refine tk 13 ?_;refine tk 14 ?_;refine tk 15 ?_;refine tk 16 ?_;refine tk 17 ?_;refine last_one (i:=9) aF rfl ?_;intro K hK;go_simp;go_at_call 50;refine(hacc).mono ?_;rintro e w1 ⟨u1,rfl,hrow,b1⟩;have F7:Hid _:=(b1.block _ (by rw[HZW.out];omega)).trans HG.out;obtain⟨ua,uc,rfl⟩:=bE hrow;have lH:(yL x x (cD c now hd P) W.drew) w1:=⟨(b1.block x HZ.out.xlt).trans HZ.out.blk,b1.block x HZ.out.xlt⟩;go_simp;refine jE hK lH ?_;clear hK K bG;refine tk 18 ?_;refine last_one (i:=19) aF rfl ?_;intro K hK;rw[aJ iW];refine mW 32 (.tmp 2) (.tmp 21) rfl w.heap.size (uL c now (.slice ua la.length uc) (.slice P.jo P.ps.length P.cap) hd) gM (by simp[Act.eval,uL]) 32 _ F7.out Tryz.RH rfl (by simp[uL,Value.oneCell']) ?_;refine hK.out _ _ (fun _=>⟨(gX _ _ x _ ak).trans (lH).a,(gX _ _ x _ ak).trans (lH).r⟩) (fun _=>?_);clear hK K;refine aO aF ?_ _;go_wp2;refine aiZ results27 rfl rfl F7.out rfl ⟨_,rfl,?_,?_⟩
 ·rw[HZW.out]at hrow;exact row_of hrow (fun j hj=>gX _ _ j _ (by have:=(hrow.lt j hj).1;omega))
 ·have hzw:=HZW.out;have hs1:=b1.size;exact aH.below (nE (K:=fun k=>k=w.heap.size) (aH.refl _ w1) (.inl rfl) _) ((HB.out.trans ((aA W).mono HB.out.size)).trans (b1.mono ak)) ak (fun i hi=>by omega)
end
end
section
open Go.RowKit Wd Tr Cg Ld
def jbP (p:Pj):Jb:=⟨p.v.ac,p.v.nd,p.v.lm,p.v.sb,p.v.st,p.v.sr,p.v.en,.slice p.sa p.v.set.length p.sc⟩
theorem aaX (F:Nat) (f:Nat->Int) (c:Cf) (now:Int):∀(ps:List Pj) (k:Nat),tJ F f c now (ps.map jbP) k=tJ F f c now ((ps.map Pj.v).map Lv) k
 | [],_=>rfl
 | p::ps,k=>by
  simp only[nI,tJ];rw[aaX F f c now ps (k+1)];rfl
def ai1 (F:Nat) (f:Nat->Int) (c:Cf) (now:Int) (ps:List Pj):rT F f c now (ps.map jbP)=rT F f c now ((ps.map Pj.v).map Lv):=by grind[rT,aaX]
def VZ (s:Sv):(f_ s).length<=s.js.length:=by
 grind[f_,sQ,List.Perm.length_eq,Jt]
def V4 (v:Kept s):∀a∈s.la,a.nm.size<=maxLen:=fun a ha=>by
 have⟨i,hi⟩:=kS ha;have hp:(s.la.map aB)[i]?=some (aB a):=by grind
 have e:(aB a).nm=a.nm:=rfl;by_cases h0:i=0
 ·subst h0;rw[v.wf.root]at hp;have e1:=aP Ac.nm (ji hp);rw[e]at e1;rw[← e1];exact(by decide:eH.nm.size<=maxLen)
 ·have h1:=(v.wf.row i _ hp ak).1;grind[j_,maxLen]
def Kept.la0 (v:Kept s):s.la≠ []/\s.la.length<=64:=by
 grind[Kept.wf,Wf.pos,Wf.len,dL]
def Ml (h:iH lab w x s.cf s.now s.hd s.la s.js L F P) (v:Kept s) (hps:P.ps.map Pj.v=s.js) {u:Value} (hr:w.ownsRow B 58 5 u s.la.length (dP s.la)):
  Calls prog 113 #[.agg (uL s.cf s.now u (.slice P.jo P.ps.length P.cap) s.hd)] w fun e w'=>∃g,e=.returned (.slice (some ⟨g,0,none⟩) (f_ s).length (f_ s).length)/\w.heap.size<=g/\nO w' g (f_ s)/\Z w w':=by
 obtain⟨ao,ca,rfl,hA,hn⟩:=AZ hr;have hca:s.la.length<=ca:=by exact ae5
 have hlen:P.ps.length=s.js.length:=by rw[← hps,dL]
 have kI:=v.ok.many;have h64:=v.la0.2;obtain⟨gj,hgj⟩:∃gj,0<P.ps.length->P.jo=some ⟨gj,0,none⟩/\Jbs w gj 0 (P.ps.map jbP):=by
  by_cases hp:0<P.ps.length
  ·obtain ⟨p,hp0⟩:∃p,P.ps[0]?=some p:=⟨_,aY hp⟩;obtain⟨g,hjo,_,_,_,_⟩:=h.row.at hp0;refine⟨g,fun _=>⟨hjo,fun k j hj=>?_⟩⟩;rw[jI]at hj
   cases hk:P.ps[k]? with
   | none=>rw[hk]at hj;cases hj
   | some p=>
    rw[hk]at hj
    cases hj;obtain⟨g2,aa7,_,_,hc,_⟩:=h.row.at hk;exact an6
  ·exact ⟨0,fun h=>absurd h hp⟩
 have hJ:Jbs w gj 0 (P.ps.map jbP):=by
  by_cases hp:0<P.ps.length
  ·exact (hgj hp).2
  ·intro k j hj;rw[DV.1 (show P.ps.length=0 by omega)]at hj;simp at hj
 have Zg:=adM (cf:=s.cf) (now:=s.now) (hd:=s.hd) (ao:=ao) (jo:=P.jo) (la:=s.la) (jl:=P.ps.map jbP) (ca:=ca) (cj:=P.cap) (gj:=gj) (oj:=0) h.rt hA (V4 v) v.us ak hca (fun hp=>(hgj (by simpa using hp)).1) hJ (by rw[dL];omega) (fun j hj=>by
  obtain⟨p,_,rfl⟩:=jH.1 hj
  exact⟨_,_,_,rfl⟩)
 have er:rT (qQ s.cf s.la) (mF s.la (wV s.la (Cc s.cf))) s.cf s.now (P.ps.map jbP)=f_ s:=by rw[ai1,hps];rfl
 rw[er,dL]at Zg;refine Zg.mono ?_;rintro e w' ⟨g,n,rfl,rfl,hg,hR,b⟩;exact⟨g,rfl,hg,hR,b⟩
structure InS (w1:ay) (rs:List Pr) (js:List Jv) (k:Nat) (ov wv:Value) (W:ay):Prop where
 ro:W.ownsRow w1.heap.size 3 1 ov k (A3.ints ((rs.take k).map Pr.a))
 rw:W.ownsRow w1.heap.size 200 3 wv k (Pq.pU ((rs.take k).map fun r=>yI js r.a))
 ne:∀g,ov.ownBlock=some g->wv.ownBlock≠some g
 dQ:Z w1 W
def Tryz.Vb:(prog.info? 3).map (fun i=>(i.zero,i.size,i.bytes))=some (some (J 0),1,8):=aF
def Tryz.avU:(prog.info? 200).map (fun i=>(i.zero,i.size,i.bytes))=some (some (.agg #[J 0,J 0,J 0]),3,24):=aF
structure XmB (x m b:Nat) (A:Array Value) (r:Int) (w0 v:ay):Prop where
 a:v.heap[x]?=some (.cells A 100 (0,0))
 m:v.heap[m]?=w0.heap[m]?
 c:v.cell? ⟨b,0,none⟩=some (J r)
def Dz (h:iH lab w x s.cf s.now s.hd s.la s.js L F P) (v:Kept s) (hps:P.ps.map Pj.v=s.js):
  Calls prog 191 #[.pointer (some ⟨x,0,none⟩)] w fun e w'=>∃ov wv,e=.returned (.tuple #[ov,wv])/\w'.ownsRow w.heap.size 3 1 ov (f_ s).length (A3.ints ((f_ s).map Pr.a))/\w'.ownsRow w.heap.size 200 3 wv (f_ s).length (Pq.pU (eX s))/\Z w w':=by
 have O_:=Mk h v.wf v.la0.1 (by have:=v.la0.2;omega)
 have HRK:Hid (∀ {W:ay} {u:Value},Z w W->W.ownsRow (w.heap.size+1) 58 5 u s.la.length (dP s.la)->_):=fun {W u} b hr=>Ml (h.below b) v hps hr;have hrl:=VZ s;have kI:=v.ok.many;have hmem:∀r∈f_ s,∃(n:Nat) (j:Jv),fZ s.js r.a=some j/\yI s.js r.a=kG n j/\r.a=(n:Int)/\n<s.js.length:=fun r hr=>by have⟨n,j,h1,h2,h3,h4⟩:=Rj hr;exact⟨n,j,Ht.2 ⟨by omega,by rw[h4,gJ];exact h1,h2⟩,h3,h4,(bO.1 h1).1⟩
 have HW:Hid (eX s=(f_ s).map fun r=>yI s.js r.a):=rfl;generalize eX s=WS at HW ⊢;have⟨rs,hrs⟩:=aZ (f_ s);have⟨q,hq⟩:=aZ rs.length;rw[hrs]at hrl hmem HW HRK ⊢;rw[hq]at hrl HRK ⊢;have HQ:Hid _:=hq;have H:Hid _:=h;have aAA:Hid _:=hmem;clear h v hps hrs hq hmem;go_enter func191,ntmps191;go_wp2_with (first
  | (go_at_call 27;refine O_.mono ?_;rintro e w0 ⟨u0,rfl,hrow,b0⟩;have Zg:=HRK.out b0 hrow)
  | (go_at_call 113;refine Zg.mono ?_;rintro e w1 ⟨g,rfl,hg,hR,b1⟩))
 have B1:Hid _:=b0.trans (b1.mono b0.size);have hg1:=nO.lt hR;have HR:Hid _:=hR;have hz1:=B1.out.size;clear hR b0 b1 hrow Zg O_;go_loopg [2,3,5,10] q (fun gk ov wv u p wr=>∃(k:Nat),k+gk=q/\p=J k/\InS w1 rs s.js k ov wv wr)
 case atStart=>exact⟨0,by omega,rfl,⟨l8 _ _ _ _,l8 _ _ _ _,fun g h=>(by simp[Value.ownBlock]at h),aI _ _⟩⟩
 case round=>
  obtain⟨k,hk,rfl,hI⟩:=hrel;by_cases hlt:k<q
  ·have hlt':(k:Int)<q:=ak;obtain⟨r,hr⟩:∃r,rs[k]?=some r:=⟨_,aY (by rw[HQ.out];exact hlt)⟩;have⟨n,j,hpa,hwt,avW,hnl⟩:=aAA.out r (dW hr);have Mq:Hid (r.a=(n:Int)):=avW;have HWT:Hid _:=hwt;clear avW hwt;have hRr:=nO.below hI.dQ HR.out;have⟨c0,c1⟩:=nO.at hRr hr;have hI1:(Value.slice (some ⟨g,0,none⟩) q q).ownBlock=some g:=rfl;have⟨i0,hi0,hi1,hi2,hi3⟩:=fA Tryz.Vb;have⟨j0,hj0,hj1,hj2,hj3⟩:=fA Tryz.avU;obtain⟨oa,oc,rfl⟩:=bE hI.ro;obtain⟨wa,wc,rfl⟩:=bE hI.rw;have⟨W2,hW2⟩:=aZ (wr.alloc (.cells #[J r.a,J r.b] 115));have b2:Z wr W2:=(by rw[← hW2];exact dY);have hG2:W2.heap[wr.heap.size]?=some (.cells #[J r.a,J r.b] 115 (0,0)):=(by rw[← hW2];exact aK wr _);have q0:=fK 0 hG2;have hz2:wr.heap.size<W2.heap.size:=(by rw[← hW2];simp);have etk:rs.take (k+1)=rs.take k++ [r]:=(by rw[kT,hr];rfl);have⟨W3,hW3⟩:=aZ (W2.alloc (.cells #[J r.a] 3));have b3:Z W2 W3:=(by rw[← hW3];exact dY);have hG3:W3.heap[W2.heap.size]?=some (.cells #[J r.a] 3 (0,0)):=(by rw[← hW3];exact aK W2 _);have hwz:=hI.dQ.size;have hz3:W2.heap.size<W3.heap.size:=(by rw[← hW3];simp);have avX:=eG (eG hI.ro b2) b3;have hrw3:=eG (eG hI.rw b2) b3;have MX:Hid _:=avX;have HRW:Hid _:=hrw3;have HNE:Hid _:=hI.ne;have HOL:Hid (∀g',(Value.slice oa k oc).ownBlock=some g'->w1.heap.size<=g'/\g'<wr.heap.size):=fun g' hg'=>hI.ro.lt g' hg';have HWL:Hid (∀g',(Value.slice wa k wc).ownBlock=some g'->w1.heap.size<=g'/\g'<wr.heap.size):=fun g' hg'=>hI.rw.lt g' hg';have HB3:Hid _:=(hI.dQ.trans (b2.mono hwz)).trans (b3.mono ak);have Sw:Hid _:=hG3;have HQ0:Hid (W3.cell? ⟨wr.heap.size,0,none⟩=some (J r.a)):=aR b3 q0;have Y2:Hid _:=etk;clear avX hrw3 hG2 hG3 etk hI hRr hI1 b2 b3;go_upto_region 5 with(at_builtin;refine jD rfl (.tmp 14) (.tmp 17) 36 rfl w1.heap.size 3 i0 _ 1 8 underlying36 hi0 hi1 hi2 hi3 rfl aT (.slice oa k oc) k (A3.ints ((rs.take k).map Pr.a)) gM MX.out (some ⟨W2.heap.size,0,none⟩) 1 1 [J r.a] gM (fun e=>by cases e) rfl (fun ad e=>by cases e;exact vI (cs:= #[J r.a]) Sw.out) (fun u hu=>by simp at hu;subst hu;rfl) (by unfold maxLen;omega) ak ak ?_;intro v4 w4 hrow4 RI ai3;obtain⟨oa4,oc4,rfl⟩:=bE hrow4)
   have arD:=row_of HRW.out (fun g' hg'=>RI.block g' (mV HRW.out g' hg').2 (fun e=>HNE.out g' e.symm hg'));have B4:=HB3.out.grown RI ak (fun g' e=>(HOL.out g' e).1);have hc4:=(SF (RI.block wr.heap.size ak (fun e=>by have:=(HOL.out _ e.symm).2;omega))).trans HQ0.out;have h4:=(H.out.below (B1.out.trans (B4.mono hz1))).below (aA w4);have hxl:=gL H.out.xlt hz1;have hml:=gL H.out.wait.lt hz1;have hz4:=RI.size;have HL4:Hid (∀v',jq v' P.wm s.js->(Instr.lookup 96 (.map (some P.wm)) (J r.a) false).run prog v'=.ok (.agg #[J r.a,J j.nd,J j.lm]) v'):=fun v' hv=>by
    have:=hv.aut (k:=r.a) (by rw[Mq.out];exact vB ak)
    rw[hpa]at this;exact this
   have⟨W5,hW5⟩:=aZ (w4.drew.alloc (.cells #[J r.a,J j.nd,J j.lm] 200));have b5:Z w4 W5:=(by rw[← hW5];exact(aA w4).alloc (aC _) _);have hG5:W5.heap[w4.heap.size]?=some (.cells #[J r.a,J j.nd,J j.lm] 200 (0,0)):=(by rw[← hW5];exact aK w4.drew _);have Uz:W5.heap.size=w4.heap.size+1:=(by rw[← hW5,iI];rfl);have T0:XmB x P.wm wr.heap.size _ r.a w4.drew w4.drew:=⟨h4.blk,rfl,hc4⟩;have HT0:Hid _:=T0;have H4:Hid _:=h4;have aGR:Hid _:=arD;have arF:Hid _:=hrow4;have aAB:Hid _:=eG arD b5;have HG5:Hid _:=hG5;have Ya:Hid _:=b5;have Bw:Hid _:=B4;have avY:Hid _:=ai3;clear arD B4 hc4 h4 b5 hG5 T0 hrow4 RI ai3 hpa MX HRW HB3 Sw HQ0;refine aG (S:=(XmB x P.wm wr.heap.size (cC s P) r.a w4.drew)) (L:=99) aF ?_;have bG:=HT0.out;have HF:Hid (∀xx:ay,(XmB x P.wm wr.heap.size (cC s P) r.a w4.drew) xx->xx.cell? ⟨x,13,none⟩=some (.map (some P.wm))/\_/\_/\True):=fun xx bJ=>⟨aj bJ.a rfl,bJ.c,HL4.out xx (H4.out.wait.same bJ.m),trivial⟩;refine tk 0 ?_;refine tk 1 ?_;refine tk 2 ?_;refine tk 3 ?_;refine tk 4 ?_;refine tk 5 ?_;refine tk 6 ?_;refine tk 7 ?_;refine last_one (i:=8) aF rfl ?_;intro K hK;go_simp;try rw[hW5]
   have WU:(XmB x P.wm wr.heap.size (cC s P) r.a w4.drew) W5:=⟨(Ya.out.block x (gL hxl Bw.out.size)).trans bG.a,(Ya.out.block P.wm (gL hml Bw.out.size)),(Ya.out.cell fE).trans bG.c⟩;refine jE hK WU ?_;clear hK K;refine last_one (i:=9) aF rfl ?_;intro K hK;refine Cu _ iW (.tmp 19) (.tmp 27) 244 iW w1.heap.size 200 j0 _ 3 24 underlying244 hj0 hj1 hj2 hj3 rfl aT (.slice wa k wc) k (Pq.pU ((rs.take k).map fun r:Pr=>yI s.js r.a)) gM aAB.out ⟨w4.heap.size,0,none⟩ 1 1 [J r.a,J j.nd,J j.lm] gM rfl (vI (cs:= #[J r.a,J j.nd,J j.lm]) HG5.out) (fun u hu=>by simp at hu;rcases hu with rfl | rfl | rfl<;>rfl) ak (by unfold maxLen;omega) ak ak W5.heap.size rfl ?_;intro g6 cap6 w6 apv arG avZ hg6;have CU:∀p,p<wr.heap.size+1->p<W5.heap.size->(∀g',(Value.slice wa k wc).ownBlock=some g'->p≠g')->w6.heap[p]?=W5.heap[p]?:=fun p _ hp hne=>arG.block p hp (fun e=>hne p e.symm rfl);have HS9:(XmB x P.wm wr.heap.size (cC s P) r.a w4.drew) w6:=⟨(CU x ak ak (fun g' hg'=>by have:=(HWL.out g' hg').1;omega)).trans WU.a,(CU P.wm ak ak (fun g' hg'=>by have:=(HWL.out g' hg').1;omega)).trans WU.m,(SF (CU wr.heap.size ak ak (fun g' hg'=>by have:=(HWL.out g' hg').2;omega))).trans WU.c⟩;have HR6:Hid _:=apv;have av0:Hid _:=arG;have aAC:Hid _:=avZ;clear apv arG avZ CU;go_simp;refine jE hK HS9 ?_;clear hK K;refine tk 10 ?_;refine aO aF ?_ _;clear WU HS9 HT0;go_wp2;go_roundg (q - (k+1))
   case measure=>omega
   case rel=>
    refine⟨k+1,by omega,by go_num,⟨?_,?_,?_,?_⟩⟩
    ·rw[Y2.out,p9];have e1:A3.ints ((rs.take k).map Pr.a++ [r].map Pr.a)=A3.ints ((rs.take k).map Pr.a)++ [J r.a]:=(by simp[A3.ints]);rw[e1];refine row_of (eG arF.out Ya.out) (fun g' hg'=>av0.out.block g' (by have:=(mV arF.out g' hg').2;omega) (fun e=>?_));rcases avY.out with e4 | e4
     ·exact HNE.out g' (e4▸hg') e.symm
     ·rw[e4]at hg'
      cases hg';have:=(HWL.out _ e.symm).2;omega
    ·rw[Y2.out,p9,Pq.O5];have e1:Pq.pU ([r].map fun r=>yI s.js r.a)= [J r.a,J j.nd,J j.lm]:=(by rw[nI,List.map_nil,HWT.out,Mq.out];rfl);rw[e1];exact HR6.out
    ·intro g' hg' hw';have hl4:=(mV arF.out g' hg').2;have eg:g6=g':=(by simpa [Value.ownBlock]using hw');rcases aAC.out with e6 | e6
     ·rcases avY.out with e4 | e4
      ·exact HNE.out g' (e4▸hg') (eg▸e6)
      ·rw[e4]at hg'
       cases hg';have:=(HWL.out _ e6).2;omega
     ·omega
    ·exact (Bw.out.trans (Ya.out.mono Bw.out.size)).grown av0.out ak (fun g' e=>(HWL.out g' e).1)
  ·have hlt':¬(k:Int)<q:=ak;obtain rfl:k=q:=ak;have h1:=hI.ro;have h2:=hI.rw;have e0:rs.take k=rs:=(by rw[← HQ.out];exact oC);rw[e0]at h1 h2;rw[← HW.out]at h2;have H1:Hid _:=h1;have H2:Hid _:=h2;have HB2:Hid _:=hI.dQ;clear h1 h2 hI e0;go_wp2;go_ret2
   exact⟨_,_,rfl,iL H1.out hz1,iL H2.out hz1,B1.out.trans (HB2.out.mono hz1)⟩
def xD (h:W.ownsRow B 3 1 v l.length (A3.ints l)) (h9:∀g,v.ownBlock=some g->lab g=9):∃sa sc,v=.slice sa l.length sc/\DF lab B W sa sc l:=by
 rcases h.2 with⟨rfl,h0⟩ | ⟨g,cap,cur,rfl,hb,hg,h1,h2,h3,ht⟩
 ·grind[jV]
 ·refine ⟨some ⟨g,0,none⟩,cap,rfl,⟨⟨g,0,fun _=>rfl,fun j x hx=>?_⟩,fun e=>(by grind),h1,fun g' o k e=>?_⟩⟩
  ·have hj:=(bO.1 hx).1;rw[rJ];refine aj hg ?_;have h1:(A3.ints l)[j]?=some (J x):=(by grind[A3.ints]);grind
  ·cases e;exact⟨h9 g rfl,hb,(aS.1 hg).1,rfl⟩
def Mr {ao:Option Addr} {c:Nat} (h2:Rw.fD w ao l) (hn:ao=none->l= []/\c=0) (hf:l.length<=1000000):
  Calls prog 97 #[.slice ao l.length c] w fun e w'=>∃v,e=.returned v/\w'.ownsRow w.heap.size 3 1 v l.length (A3.ints l)/\Z w w':=by
 cases ao with
 | none=>obtain⟨rfl,rfl⟩:=hn rfl;simp only[jh];have hq:=fun w=>Fj (P:=prog) w 36 3 none 0 0 0 0 underlying36;go_enter func97,ntmps97;exact PZ
 | some ad=>
  have⟨i0,hi0,hz0,hz1,hz2⟩:=fA Tryz.Vb;have b0:Z w (w.alloc (.cells #[] 3)):=(aI _ w).alloc (aC _) _;obtain⟨g,o,h1,h2⟩:=h2;have hcell:∀ad',some ad=some ad'->∀j u,(A3.ints l)[j]?=some u->(w.alloc (.cells #[] 3)).cell? (ad'.add j)=some u:=fun ad' ea j u hu=>by
   cases ea;unfold A3.ints at hu;rw[jI]at hu
   cases hj:l[j]? with
   | none=>rw[hj]at hu;cases hu
   | some n=>
    rw[hj]at hu
    cases hu;have e:=h1 (by have:=(bO.1 hj).1;omega)
    cases e;have hadd:(⟨g,o,none⟩:Addr).add j=⟨g,o+j,none⟩:=(by unfold Addr.add;split<;>simp_all);rw[hadd];exact aR b0 (h2 j n hj)
  have hone:∀u∈A3.ints l,u.oneCell'=true:=fun u hu=>by unfold A3.ints at hu;obtain⟨n,_,rfl⟩:=jH.1 hu;rfl
  have hfl:=A3.K7 l;have⟨q,hq⟩:=aZ l.length;rw[hq]at hf hfl ⊢;have hq:=fun w=>Fj (P:=prog) w 36 3 (some ad) q c 0 0 underlying36;have Ug:Hid ((A3.ints l).length=q*1):=show (A3.ints l).length=q*1 by omega
  have HC:Hid _:=hcell;have HO:Hid _:=hone;have HM:Hid _:=Lr.KD w 3 1;clear h2 hfl hcell hn hone h1;go_enter func97,ntmps97;go_wp2_with (at_builtin;refine jR rfl (.tmp 5) (.tmp 6) 36 rfl w.heap.size 3 i0 _ 1 8 underlying36 hi0 hz0 hz1 hz2 rfl aT (.slice (some ⟨w.heap.size,0,none⟩) 0 0) 0 [] rfl HM.out (some ad) q c (A3.ints l) rfl (fun h=>by cases h) Ug.out HC.out HO.out ?_ ?_ ?_ ?_;exact(bM (m:=35184372088832) ak aT);omega;(simp);intro v' w5 hown hgr)
  exact ae4
section
variable {lab:Nat->Nat} {w W W':ay} {x:Nat} {c:Cf} {now hd:Int} {la:List Ac} {jw:List Jv} {L:List A3.Ag.En} {F:Nat} {P:EM}
def mk7 (lab:Nat->Nat) (g k:Nat):Nat:=if k=g then 7 else lab k
theorem Ms {g k:Nat} (h:k≠g):mk7 lab g k=lab k:=au h
def JD {g k i:Nat} (h9:lab g=9) (hi:i≠9) (h:lab k=i):mk7 lab g k=i:=by
 grind[Ms]
def iH.ai4 (h:iH lab W x c now hd la jw L F P) (h9:lab g=9) (hl:g<W.heap.size) (h5:5<=g):iH (mk7 lab g) W x c now hd la jw L F P:=
 have hm:∀i,i≠9->∀k,k<W.heap.size->lab k=i->mk7 lab g k=i:=fun i hi k _ hk=>JD h9 hi hk
 ⟨h.blk,JD h9 aT h.lx,h.tree.mono (hm 1 aT),h.led.mono (hm 2 aT),h.row.mono (hm 3 aT),fun p hp=>(h.sets p hp).mono (hm 7 aT),h.wait,JD h9 aT h.lw,h.due.mono (hm 5 aT),h.free,JD h9 aT h.lb,fun k hk=>by grind[Ms,gl],h.vt,h.rt,fun k hk=>by grind[Ms,top]⟩
def iH.av1 (h:iH lab W x c now hd la jw L F P) (k:aH (fun k=>lab k=6) W W') {F':Nat} (hn:N2.fH W' P.b c.nodes.toNat F'):iH lab W' x c now hd la jw L F' P:=by
 have hb:∀j,j<W.heap.size->lab j≠6->W'.heap[j]?=W.heap[j]?:=by grind[aH.block]
 have hg:∀j,j<5->W'.heap[j]?=W.heap[j]?:=by grind[Gv,gl]
 have hs:=k.size;exact⟨(hb x h.xlt (by rw[h.lx];omega)).trans h.blk,h.lx,h.tree.kept (fun j hj hl=>hb j hj ak),h.led.kept (fun j hj hl=>hb j hj ak),h.row.kept (fun j hj hl=>hb j hj ak),fun p hp=>(h.sets p hp).kept hs (fun j hj hl=>hb j hj ak),h.wait.same (hb _ h.wait.lt (by rw[h.lw];omega)),h.lw,h.due.kept k (fun j hj hk=>by omega),hn,h.lb,h.gl,sF h.vt (hg _ ak),sG h.rt (hg _ ak),fun k hk=>h.top k ak⟩
def Mv.ai4 {lab':Nat->Nat} (h:Mv lab lab' w W) (hg:w.heap.size<=g):Mv lab (mk7 lab' g) w W:=⟨fun k hk=>by grind[Ms,old],h.fF⟩
def startP (now:Int) (l:List Int) (g:Nat) (p:Pj):Pj:=⟨dR now l p.v,some ⟨g,0,none⟩,l.length⟩
def ai5 (lab:Nat->Nat) (w:ay) (x:Nat) (c:Cf) (now hd:Int) (la:List Ac) (jw:List Jv) (L:List A3.Ag.En) (F:Nat) (P:EM) (n:Nat) (p:Pj) (l:List Int) (sa:Option Addr) (sc:Nat) (w':ay):Prop:=∃lab' g,iH lab' w' x c now hd la (bX jw n (dR now l)) (A3.Ag.I4 ⟨(n:Int),now+p.v.lm⟩ L) (N2.Nd.pO F l.length) {P with ps:=P.ps.set n (startP now l g p)}/\Mv lab lab' w w'/\DF lab' w.heap.size w' sa sc l
def adT (h:iH lab w x c now hd la jw L F P) {n:Nat} {p:Pj} (hp:P.ps[n]?=some p) (hn:n<=1000000) (hj:jw[n]?=some p.v) (h1:p.v.st=1) (hl:N2.vals ((N2.Nd.mI F).take l.length)=A3.ints l) (hnd:p.v.nd=l.length) (hl1:1<=l.length) (hlF:l.length<=(N2.Nd.mI F).length) (hl2:l.length<=256) (h0:0<=now+p.v.lm) (h2:now+p.v.lm<=1125899906842624) (hf:∀e∈L,e.id≠(n:Int)) (hL:L.length<=1000000):
  Calls prog 193 #[.pointer (some ⟨x,0,none⟩),J n] w fun e w'=>∃u,e=.returned (.agg (yX ⟨2,n,now,0,0,l⟩ u))/\∃sa sc,u=.slice sa l.length sc/\ai5 lab w x c now hd la jw L F P n p l sa sc w':=by
 have hlt:=(bO.1 hp).1;have⟨W,hW⟩:=aZ (w.alloc (.cells #[J 0,J 0,J 0,J 0,J 0,.slice none 0 0] 65));have bW:Z w W:=by rw[← hW];exact dY
 have hE:=hW▸YR w;have l9:=h.top _ (aC _);have iX:5<=w.heap.size:=h.Gv;have oz:w.heap.size<W.heap.size:=by rw[← hW];simp
 have h0':=h.below bW;have M0:Mv lab lab w W:=Mv.of_below bW;have x13:W.cell? ⟨x,13,none⟩=some (.map (some P.wm)):=h0'.cell rfl;have⟨w1,hrun,hW1,ht1⟩:=h0'.wait.drop hj h1 (f:=dR now l) (by show (2:Int)≠1;decide) (vB ak) 0;have k1:aH (fun k=>lab k=4) W w1:=(Gt ht1.grown).mono (fun j _ e=>by rw[e];exact h0'.lw);have h1':=(h0'.ah4 k1 hW1).below (aA w1);have M1:=(M0.trans (Mv.lift aT k1)).below (aA w1);have hE1:=EvB.below (EvB.fF hE k1 (by rw[l9];decide)) (aA w1);have JB:uF lab 4 W.heap.size w1.heap.size w.heap.size=9:=by rw[fu oz];exact l9
 have hz1:w.heap.size<w1.drew.heap.size:=gL oz k1.size;generalize uF lab 4 W.heap.size w1.heap.size=BJ at h1' M1 JB;have⟨g,hjo,hg,hgl,hc,hfz⟩:=h1'.row.at hp;have htake:=N2.al1 P.b c.nodes.toNat F l.length w1.drew h1'.free hl1 hlF;rw[hl]at htake;have lx:=h1'.lx;have hl':(n:Int)<P.ps.length:=ak;have T0:yL x g _ w1.drew w1.drew:=⟨h1'.blk,rfl⟩;have KL:Hid _:=hc 1 _ rfl;have HP:Hid (P.ps[n]?=some p):=hp;have H1:Hid _:=h1';have Bu:Hid _:=M1;have WR:Hid _:=hE1;have HT0:Hid _:=T0;have HND:Hid _:=hnd;clear h h0' hE M0 bW h1' M1 hE1 k1 ht1 hW1 T0 hc hfz hj h1 hnd;go_enter func193,ntmps193;go_upto_region 2 with fail
 refine aG (S:=(yL x g (cD c now hd P) w1.drew)) (L:=99) aF ?_;have bG:=HT0.out;have HF:Hid (∀xx:ay,(yL x g (cD c now hd P) w1.drew) xx->xx.cell? ⟨x,15,none⟩=some (.pointer (some ⟨P.b,0,none⟩))/\xx.cell? ⟨x,11,none⟩=some (.slice (some ⟨g,0,none⟩) P.ps.length P.cap)/\xx.cell? ⟨g,n*8+1,none⟩=some (J l.length)/\True):=fun xx bJ=>⟨aj bJ.a rfl,(by rw[← hjo];exact aj bJ.a rfl),(by rw[← HND.out];exact fI KL.out bJ.r),trivial⟩;refine tk 0 ?_;refine tk 1 ?_;refine tk 2 ?_;refine tk 3 ?_;refine tk 4 ?_;refine tk 5 ?_;refine tk 6 ?_;refine tk 7 ?_;refine tk 8 ?_;refine tk 9 ?_;refine tk 10 ?_;refine tk 11 ?_;refine last_one (i:=12) aF rfl ?_;intro K hK;go_simp;go_at_call 236;refine(htake).mono ?_;rintro e w2 ⟨rfl,hset,hS2,gr2⟩;have k2:aH (fun k=>BJ k=6) w1.drew w2:=(Gt gr2).mono (fun j _ e=>by rw[e];exact H1.out.lb);have ku:(yL x g (cD c now hd P) w1.drew) w2:=⟨(k2.block x H1.out.xlt (by rw[lx];decide)).trans H1.out.blk,k2.block g hgl (by rw[hg];decide)⟩;go_simp;refine jE hK ku ?_;clear hK K bG;refine tk 13 ?_;refine tk 14 ?_;refine tk 15 ?_;refine tk 16 ?_;refine tk 17 ?_;refine aO aF ?_ _;have hz2:w1.drew.heap.size<w2.heap.size:=(mV hset _ rfl).2;have l12:=H1.out.top _ (aC _);have h5w:5<=w1.drew.heap.size:=ak;have h2':=(H1.out.av1 k2 hS2).ai4 l12 hz2 h5w;have M2:=(Bu.out.trans (Mv.own aT k2)).ai4 (g:=w1.drew.heap.size) ak;have hE2:=EvB.fF WR.out k2 (by rw[JB];decide);have l92:mk7 BJ w1.drew.heap.size w.heap.size=9:=by rw[Ms ak];exact JB
 have hsj:xg (fun k=>mk7 BJ w1.drew.heap.size k=7) w2 (startP now l w1.drew.heap.size p):=by
  obtain⟨sa,sc,e1,i1⟩:=xD (lab:=fun _=>9) hset (fun _ _=>rfl);injection e1 with e1 e2 e3;subst e1;refine⟨i1.at_,fun e=>(by cases e),aC _,hl2,fun g' o k e=>?_⟩
  cases e;exact⟨aJ rfl,hz2,rfl⟩
 have av2:Hid (Rw.fD w2 (some ⟨w1.drew.heap.size,0,none⟩) l):=hsj.at_;clear ku HT0 H1 Bu WR hS2 gr2 hset htake;have lx2:=h2'.lx;generalize av3:mk7 BJ w1.drew.heap.size=oh at *;clear av3 k2;have hG:w1.drew.heap.size=w1.heap.size:=rfl;have h3':=h2'.below (aA w2);have M3:=M2.below (aA w2);have arH:=hsj.kept (W':=w2.drew) (aC _) (fun _ _ _=>rfl);have hE3:=EvB.below hE2 (aA w2);have⟨g3,av5,hg3,aGT,hc3,amU⟩:=h3'.row.at hp;rw[hjo]at av5
 cases av5;have hrow3:=h3'.row;rw[hjo]at hrow3;have c4:=hc3 4 _ rfl;have c5:=hc3 5 _ rfl;have c7:=hc3 7 _ rfl;have f4:=amU (n*8+4);have f5:=amU (n*8+5);have f7:=amU (n*8+7);have R1:=hrow3.set (i:=4) (p':={p with v:={p.v with st:=2}}) (v:=J 2) hp ak rfl;have R2:=uq.set (i:=5) (n:=n) (p:={p with v:={p.v with st:=2}}) (p':={p with v:={p.v with st:=2,sr:=now}}) (v:=J now) R1 (by rw[Cw hlt]) ak rfl;have R3:=uq.set (i:=7) (n:=n) (p:={p with v:={p.v with st:=2,sr:=now}}) (p':=startP now l w1.heap.size p) (v:=.slice (some ⟨w1.heap.size,0,none⟩) l.length l.length) R2 (by rw[JY,Cw hlt]) ak rfl;rw[JY,JY]at R3;have hgx:g≠x:=fun e=>by rw[e]at hg3;omega
 have⟨V1,hV1⟩:=aZ (w2.drew.setCell ⟨g,n*8+4,none⟩ (J 2));have⟨V2,hV2⟩:=aZ (V1.setCell ⟨g,n*8+5,none⟩ (J now));have⟨V3,hV3⟩:=aZ (V2.setCell ⟨g,n*8+7,none⟩ (.slice (some ⟨w1.heap.size,0,none⟩) l.length l.length));rw[hV1,hV2,hV3]at R3;have kV1:aH (fun k=>oh k=3) w2.drew V1:=hV1▸(aH.refl _ w2.drew).setCell _ _ (.inl hg3);have kV2:=hV2▸kV1.setCell _ _ (.inl hg3);have kV3:=hV3▸kV2.setCell _ _ (.inl hg3);obtain⟨ga,ea,_,_,ca,fa⟩:=R1.at (n:=n) (p:={p with v:={p.v with st:=2}}) (by rw[Cw hlt])
 cases ea;obtain⟨gb,eb,_,_,cb,fb⟩:=R2.at (n:=n) (p:={p with v:={p.v with st:=2,sr:=now}}) (by rw[JY,Cw hlt])
 cases eb;have c51:V1.cell? ⟨g,n*8+5,none⟩=some (J p.v.sr):=by rw[← hV1];exact ca 5 _ rfl
 have c71:V2.cell? ⟨g,n*8+7,none⟩=some (.slice p.sa p.v.set.length p.sc):=by rw[← hV2,<-hV1];exact cb 7 _ rfl
 have f51:V1.frozen? ⟨g,n*8+5,none⟩=false:=by rw[← hV1];exact fa _
 have f71:V2.frozen? ⟨g,n*8+7,none⟩=false:=by rw[← hV2,<-hV1];exact fb _
 have hxl:=h3'.xlt;have av6:∀p2∈P.ps.set n (startP now l w1.heap.size p),xg (fun j=>oh j=7) w2.drew p2:=fun p2 hp2=>by
  rcases PO hp2 with h | h
  ·exact h3'.sets p2 h
  ·rw[h];exact arH
 have h4':=h3'.Yr kV3 (ps':=P.ps.set n (startP now l w1.heap.size p)) (by rw[Fz]) av6 (by rw[hjo];exact R3.mono (fun _ _ h=>.inl h))
 have M4:=M3.trans (Mv.lift aT kV3);have hE4:=EvB.fF hE3 kV3 (by rw[l92];decide);have hz3:w.heap.size<w2.drew.heap.size:=by show w.heap.size<w2.heap.size;omega
 have l94:uF oh 3 w2.drew.heap.size V3.heap.size w.heap.size=9:=by rw[fu hz3];exact l92
 have O8:=kV3.size;have i4:Rw.fD V3 (some ⟨w1.heap.size,0,none⟩) l:=(arH.kept kV3.size (fun j hj he=>kV3.block j hj ak)).at_;generalize uF oh 3 w2.drew.heap.size V3.heap.size=J3 at h4' M4 l94;have hP4:({P with ps:=P.ps.set n (startP now l w1.heap.size p)}:EM).ps[n]?=some (startP now l w1.heap.size p):=by show (P.ps.set n _)[n]?=_;rw[Cw hlt]
 have VX:=Y_ h4' hP4 hn h0 h2 hf hL;have T3:yL x x _ w2.drew w2.drew:=⟨h3'.blk,rfl⟩;have HT3:Hid _:=T3;have HX:Hid _:=h3'.blk;have H4:Hid _:=h4';have HM4:Hid _:=M4;have HE4:Hid _:=hE4;have HI4:Hid _:=i4;have HK1:Hid (V1.heap[x]?=w2.drew.heap[x]?):=kV1.block x hxl (by rw[lx2];decide);have HK2:Hid (V2.heap[x]?=w2.drew.heap[x]?):=kV2.block x hxl (by rw[lx2];decide);have HK3:Hid (V3.heap[x]?=w2.drew.heap[x]?):=kV3.block x hxl (by rw[lx2];decide);clear h2' h3' M2 M3 hE2 hE3 hsj arH av2 hrow3 R1 R2 R3 ca fa cb fb kV1 kV2 kV3 av6 h4' M4 hE4 T3 i4 hc3 amU c5 c7 f5 f7;go_upto_region 3 with fail
 refine aG (S:=(yL x x (cD c now hd P) w2.drew)) (L:=99) aF ?_;have bG:=HT3.out;have HF:Hid (∀xx:ay,(yL x x (cD c now hd P) w2.drew) xx->xx.cell? ⟨x,8,none⟩=some (J now)/\xx.cell? ⟨x,11,none⟩=some (.slice (some ⟨g,0,none⟩) P.ps.length P.cap)/\True):=fun xx bJ=>⟨aj bJ.a rfl,(by rw[← hjo];exact aj bJ.a rfl),trivial⟩;refine tk 0 ?_;refine tk 1 ?_;refine tk 2 ?_;refine tk 3 ?_;refine tk 4 ?_;refine tk 5 ?_;refine tk 6 ?_;refine tk 7 ?_;refine tk 8 ?_;refine tk 9 ?_;refine tk 10 ?_;refine tk 11 ?_;refine tk 12 ?_;refine tk 13 ?_;refine tk 14 ?_;refine tk 15 ?_;refine tk 16 ?_;refine tk 17 ?_;refine tk 18 ?_;refine tk 19 ?_;refine tk 20 ?_;refine tk 21 ?_;refine last_one (i:=22) aF rfl ?_;intro K hK;go_simp;try rw[hV1]
 have av9:(yL x x (cD c now hd P) w2.drew) V1:=⟨HK1.out.trans HX.out,HK1.out⟩;refine jE hK av9 ?_;clear hK K;refine tk 23 ?_;refine tk 24 ?_;refine last_one (i:=25) aF rfl ?_;intro K hK;go_simp;try rw[hV2]
 have av_:(yL x x (cD c now hd P) w2.drew) V2:=⟨HK2.out.trans HX.out,HK2.out⟩;refine jE hK av_ ?_;clear hK K;refine tk 26 ?_;refine tk 27 ?_;refine last_one (i:=28) aF rfl ?_;intro K hK;go_simp;try rw[hV3]
 have awc:(yL x x (cD c now hd P) w2.drew) V3:=⟨HK3.out.trans HX.out,HK3.out⟩;refine jE hK awc ?_;clear hK K;refine aO aF ?_ _;clear av9 av_ awc HT3 HK1 HK2 HK3 hV1 hV2 hV3 c4 f4 c51 f51 c71 f71;go_upto_region 5 with(go_at_call 84;refine VX.mono ?_;rintro e w5 ⟨rfl,Za,h5,M5⟩)
 have l95:=(M5.old _ ak).trans l94;have hE5:=EvB.below (EvB.fF HE4.out M5.fF (by unfold Own;rw[l94];decide)) (aA w5);have Uz:V3.heap.size<=w5.drew.heap.size:=M5.fF.size;have h6:=h5.below (aA w5);have M6:=(HM4.out.trans M5).below (aA w5);have i6:Rw.fD w5.drew (some ⟨w1.heap.size,0,none⟩) l:=((h5.sets _ (dW hP4)).kept (W':=w5.drew) (aC _) (fun _ _ _=>rfl)).at_;have hcl:=Mr (c:=l.length) i6 (fun e=>by cases e) ak;have T5:yL x x _ w5.drew w5.drew:=⟨h6.blk,rfl⟩;have HT5:Hid _:=T5;have H6:Hid _:=h6;have Ni:Hid _:=M6;have HE6:Hid _:=hE5;clear T5 h6 M6 hE5 h5 M5 VX i6 HI4 HM4 H4 HE4;refine aG (S:=(yL x x (coreC c now P.t P.d P.jo (P.ps.set n (startP now l w1.heap.size p)).length P.cap hd P.wm P.a P.b) w5.drew)) (L:=99) aF ?_;have bG:(yL x x (coreC c now P.t P.d P.jo (P.ps.set n (startP now l w1.heap.size p)).length P.cap hd P.wm P.a P.b) w5.drew) (w5.drew):=HT5.out;have HF:Hid (∀xx:ay,(yL x x (coreC c now P.t P.d P.jo (P.ps.set n (startP now l w1.heap.size p)).length P.cap hd P.wm P.a P.b) w5.drew) xx->xx.cell? ⟨x,8,none⟩=some (J now)/\True):=fun xx bJ=>⟨aj bJ.a rfl,trivial⟩;refine tk 0 ?_;refine tk 1 ?_;refine tk 2 ?_;refine tk 3 ?_;refine tk 4 ?_;refine tk 5 ?_;refine last_one (i:=6) aF rfl ?_;intro K hK;go_simp;go_at_call 97;refine(hcl).mono ?_;rintro e w7 ⟨u7,rfl,hr7,b7⟩;have⟨aAJ,hg7,hs7⟩:=EvB.below HE6.out b7;have HG7:Hid _:=hg7;obtain⟨ua,uc,rfl⟩:=bE hr7;have hxe:x≠w.heap.size:=fun e=>by have:=H6.out.lx;rw[e,l95]at this;omega
 have arI:(yL x x (coreC c now P.t P.d P.jo (P.ps.set n (startP now l w1.heap.size p)).length P.cap hd P.wm P.a P.b) w5.drew) w7:=⟨(b7.block x H6.out.xlt).trans H6.out.blk,b7.block x H6.out.xlt⟩;go_simp;refine jE hK arI ?_;clear hK K bG;refine tk 7 ?_;refine last_one (i:=8) aF rfl ?_;intro K hK;rw[aJ iW];refine mW 65 (.tmp 4) (.tmp 64) rfl w.heap.size (yX ⟨2,n,now,0,0,l⟩ (.slice ua l.length uc)) gM (by simp[Act.eval,yX]) 65 aAJ HG7.out Tryz.adj hs7 (by simp[yX,Value.oneCell']) ?_;refine hK.out _ _ (fun _=>⟨(gX _ _ x _ hxe).trans (arI).a,(gX _ _ x _ hxe).trans (arI).r⟩) (fun _=>?_);clear hK K;refine aO aF ?_ _;go_wp2;have l97:∀g',(Value.slice ua l.length uc).ownBlock=some g'->Za g'=9:=fun g' hg'=>H6.out.top g' (hr7.lt g' hg').1;have⟨sa,sc,e7,i7⟩:=xD hr7 l97;injection e7 with e7 _ e8;subst e7;subst e8;have h8:=(H6.out.below b7).ret l95 iX (yX ⟨2,n,now,0,0,l⟩ (.slice ua l.length uc));refine LM results193 rfl rfl HG7.out rfl ⟨_,rfl,ua,uc,rfl,?_⟩;unfold ai5;refine⟨Za,w1.heap.size,h8,(Ni.out.below b7).ret (aC _) _,?_⟩;have i8:=og (lab':=Za) (W':=w7.setRow w.heap.size (yX ⟨2,n,now,0,0,l⟩ (.slice ua l.length uc))) i7 (by simp[World.setRow]) (fun _ _ h=>h) (fun g' o k e=>gX _ _ g' _ (by have:=(i7.own g' o k e).2.1;omega));exact⟨i8.at_,i8.nil,i8.cap,fun g' o k e=>by have⟨a1,a2,a3,a4⟩:=i8.own g' o k e;exact⟨a1,by omega,a3,a4⟩⟩
end
end
section
open Go.RowKit Wd Tr Cg Ld
def BK (j:Jv) (u:Value):Array Value:= #[J j.ac,J j.nd,J j.lm,J j.sb,J j.st,J j.sr,J j.en,u]
theorem Tryz.apy:(prog.info? 38).map (·.size)=some 8:=aF
def amV (h:W.heap[b]?=some (.cells cs 38 (0,0))) (hs:cs.size=8):(loadVar 38 ⟨b,0,none⟩).run prog W=.ok (.agg cs) W:=by
 grind[Fy,underlying38,Tryz.apy]
def arJ {f:Func} {r:Nat} {a:Act} {old cs:Array Value} (hf:f.results= #[ResultVar.cell r 38]) (ht:a.tmps[r]?=some (.pointer (some ⟨b,0,none⟩))) (hd:a.defers= []) (hg:W.heap[b]?=some (.cells old 38 (0,0))) (hs:cs.size=8) (hR:R (.returned (.agg cs)) (W.setRow b cs)):bodyPost prog f R .ret a (W.setRow b cs):=
 b_ (v:=.agg cs) (AA hf ht (amV (xI W b old cs _ _ hg) hs)) hd hR
def V5 (j:Jv) {sc:Nat} (hi:Rw.fD w sa j.set) (hn:sa=none->j.set= []/\sc=0) (hf:j.set.length<=256):
  Calls prog 51 #[.agg (BK j (.slice sa j.set.length sc))] w fun e w'=>∃u,e=.returned (.agg (BK j u))/\w'.ownsRow (w.heap.size+2) 3 1 u j.set.length (A3.ints j.set)/\Z w w':=by
 have⟨W,hW⟩:=aZ ((w.alloc (.cells #[J j.ac,J j.nd,J j.lm,J j.sb,J j.st,J j.sr,J j.en,.slice sa j.set.length sc] 38)).alloc (.cells #[J 0,J 0,J 0,J 0,J 0,J 0,J 0,.slice none 0 0] 38));have bW:Z w W:=by rw[← hW];exact dY.alloc dF _
 have hB:W.heap[w.heap.size]?=some (.cells (BK j (.slice sa j.set.length sc)) 38 (0,0)):=by exact Xh
 have hR:W.heap[w.heap.size+1]?=some (.cells #[J 0,J 0,J 0,J 0,J 0,J 0,J 0,.slice none 0 0] 38 (0,0)):=by have:=aK (w.alloc (.cells #[J j.ac,J j.nd,J j.lm,J j.sb,J j.st,J j.sr,J j.en,.slice sa j.set.length sc] 38)) (.cells #[J 0,J 0,J 0,J 0,J 0,J 0,J 0,.slice none 0 0] 38);rw[iI]at this;rw[← hW];exact this
 have oz:W.heap.size=w.heap.size+2:=by rw[← hW];simp
 have hi':Rw.fD W sa j.set:=by obtain⟨g,o,h1,h2⟩:=hi;exact⟨g,o,h1,fun k n hk=>aR bW (h2 k n hk)⟩
 have hcl:=Mr (c:=sc) hi' hn ak;have c7:=fK 7 hB;have HB:Hid _:=hB;have HR:Hid _:=hR;have HW:Hid _:=bW;have HZ:Hid _:=oz;clear hB hR bW hi hi' hn oz;unfold BK;go_enter func51,ntmps51;go_upto_region 2 with(go_at_call 97;refine hcl.mono ?_;rintro e w1 ⟨u,rfl,hrow,b1⟩;obtain⟨ua,uc,rfl⟩:=bE hrow;have hB1:=(b1.block w.heap.size (by have:=HZ.out;omega)).trans HB.out;have q7:=fK 7 hB1;have f7:w1.frozen? ⟨w.heap.size,7,none⟩=false:=aD hB1;have HB1:Hid _:=hB1;have ai6:Hid _:=hrow;have Hb1:Hid _:=b1;clear hB1 hrow b1 c7)
 have hB2:(w1.setCell ⟨w.heap.size,7,none⟩ (.slice ua j.set.length uc)).heap[w.heap.size]?=some (.cells (BK j (.slice ua j.set.length uc)) 38 (0,0)):=bS w1 w.heap.size 7 _ _ _ HB1.out;have hR2:(w1.setCell ⟨w.heap.size,7,none⟩ (.slice ua j.set.length uc)).heap[w.heap.size+1]?=_:=(gy _ _ _ _ dF).trans ((Hb1.out.block _ (by have:=HZ.out;omega)).trans HR.out);have hz1:=Hb1.out.size;have b2:Z w (w1.setCell ⟨w.heap.size,7,none⟩ (.slice ua j.set.length uc)):=(HW.out.trans (Hb1.out.mono (by have:=HZ.out;omega))).setCell (p:=⟨w.heap.size,7,none⟩) (aC _) _;have hrow2:(w1.setCell ⟨w.heap.size,7,none⟩ (.slice ua j.set.length uc)).ownsRow (w.heap.size+2) 3 1 (.slice ua j.set.length uc) j.set.length (A3.ints j.set):=by have hzo:=HZ.out;rw[← hzo];exact row_of ai6.out (fun g hg=>gy _ _ _ _ (by have:=(mV ai6.out g hg).1;simp;omega))
 have apz:Hid _:=hrow2;have HB2:Hid _:=b2;have HR2:Hid _:=hR2;have O8:w.heap.size+2<=(w1.setCell ⟨w.heap.size,7,none⟩ (.slice ua j.set.length uc)).heap.size:=by have:=HZ.out;rw[vV];omega
 clear hrow2 b2 hR2 ai6 Hb1 HB1 q7 f7;generalize w1.setCell ⟨w.heap.size,7,none⟩ (.slice ua j.set.length uc)=V at *;have k0:=fK 0 hB2;have k1:=fK 1 hB2;have k2:=fK 2 hB2;have k3:=fK 3 hB2;have k4:=fK 4 hB2;have k5:=fK 5 hB2;have k6:=fK 6 hB2;have k7:=fK 7 hB2;clear hB2;go_wp2_with (refine eF rfl 38 (.tmp 2) (.tmp 7) rfl (w.heap.size+1) (BK j (.slice ua j.set.length uc)) gM (by simp[Act.eval,BK]) 38 _ HR2.out Tryz.apy rfl (by simp[BK,Value.oneCell']) ?_)
 refine arJ results51 rfl rfl HR2.out rfl ⟨_,rfl,?_,?_⟩
 ·exact row_of apz.out (fun g hg=>gX _ _ g _ (by have:=(mV apz.out g hg).1;omega))
 ·exact aH.below (nE (K:=fun k=>k=w.heap.size+1) (aH.refl _ V) (.inl rfl) _) HB2.out ak (fun i hi=>by omega)
def arK {G Q:Nat->World->Option Addr->Nat->Option Addr->Nat->Prop} {C:Prop} (main:Hid (∀a b c d e f,G a b c d e f->Q a b c d e f)->C) (fin:∀a b c d e f,G a b c d e f->Q a b c d e f):C:=main fin
def arL {e:Hg} {sc:Nat} (hg:W.heap[g]?=some (.cells (yX e (.slice sa e.ls.length sc)) 65 (0,0))) (h9:lab g=9) (hB:B<=g) (hi:DF lab B W sa sc e.ls) (hne:∀g' o k,sa=some ⟨g',o,k⟩->g'≠g):yu lab B W (.slice (some ⟨g,0,none⟩) 1 1) [⟨e,sa,sc⟩]:=by
 refine⟨⟨by simp[iE,peL],.inr ⟨g,1,_,rfl,hB,hg,aC _,by decide,by simp[yX],?_⟩⟩,fun g' h=>?_,fun p hp=>?_,fun p hp g' o k h=>?_⟩
 ·simp[iE,peL,yX]
 ·grind[Value.ownBlock]
 ·grind
 grind[Value.ownBlock]
def V6 (v:Kept s) (hF:kH s.cf s.js F):((N2.Nd.mI F).length:Int)=dz s:=by
 grind[Kept.rng,Kept.free,xk,nJ.n0,nJ.n1]
def adU (v:Kept s) (hF:kH s.cf s.js F) (q:Nat):N2.vals ((N2.Nd.mI F).take q)=A3.ints ((dZ s.cf.nodes s.js).take q):=by
 grind[Kept.rng,xk,nJ.n0,nJ.n1,List.map_take,N2.vals,A3.ints,List.map_congr_left,wW]
def adV {l:List Pq.Pr.Wt} (h:W.ownsRow B 200 3 v l.length (Pq.pU l)):∃wa wc,v=.slice wa l.length wc/\Pq.kK W wa l:=by
 rcases h.2 with⟨rfl,h0⟩ | ⟨g,cap,cur,rfl,hb,hg,_,_,_,ht⟩
 ·exact ⟨none,0,by grind,0,0,fun h=>by omega,fun j s hs=>by grind⟩
 ·refine ⟨some ⟨g,0,none⟩,cap,rfl,g,0,fun _=>rfl,fun j s hs=>?_⟩;have⟨e0,e1,e2⟩:=Pq.VF l j s hs;grind[aj]
def V7 {c:Cf} {now hd:Int} (h:iH lab w x c now hd la jw L F P) {js:List Jv} (hps:P.ps.map Pj.v=js) (hL:kY js L) (hm:js.length<=4096):
  Calls prog 159 #[.pointer (some ⟨x,0,none⟩)] w fun e w'=>∃u,e=.returned u/\∃ra rc,u=.slice ra L.length rc/\Pq.eO w' ra (A3.rH (GD js) L)/\Z w w':=by
 obtain⟨m,ao,hA,_⟩:=h.due;have hat:∀e∈L,∃(q:Nat) (p:Pj),e.id=(q:Int)/\P.ps[q]?=some p/\GD js e=p.v.nd:=fun e he=>by
  obtain⟨n,j,h1,_,rfl⟩:=(hL.2 e).1 he;have h1':=h1;rw[← hps,jI]at h1'
  cases hq:P.ps[n]? with
  | none=>rw[hq]at h1';cases h1'
  | some p=>
   rw[hq]at h1'
   cases h1';exact⟨n,p,rfl,hq,by simp[GD,h1]⟩
 have hj:∃g,(L≠ []->w.cell? ⟨x,11,none⟩=some (.slice (some ⟨g,0,none⟩) P.ps.length P.cap))/\∀e∈L,∃q:Nat,e.id=q/\q<P.ps.length/\w.cell? ⟨g,q*8+1,none⟩=some (J (GD js e)):=by
  cases L with
  | nil=>exact⟨0,fun h=>absurd rfl h,fun e he=>(by cases he)⟩
  | cons e0 L0=>
   obtain⟨q0,p0,_,hq0,_⟩:=hat e0 (pJ ..);obtain⟨g,hjo,_,_,_,_⟩:=h.row.at hq0;refine⟨g,fun _=>by rw[← hjo];exact h.cell rfl,fun e he=>?_⟩;have⟨q,p,h1,h2,h3⟩:=hat e he;obtain⟨g2,aa7,_,_,hc,_⟩:=h.row.at h2;rw[hjo]at aa7
   cases aa7;exact⟨q,h1,(bO.1 h2).1,by rw[h3];exact hc 1 _ rfl⟩
 obtain⟨g,hj1,hj2⟩:=hj;refine(A3.aiD (h.cell rfl) hj1 hj2 hA (by have:=Bn hL;omega)).mono ?_;rintro e w' ⟨v,rfl,hrow,b⟩;have hl:(A3.rH (GD js) L).length=L.length:=by unfold A3.rH;simp
 rw[← hl]at hrow;obtain⟨ra,rc,rfl,hR⟩:=Pq.EX hrow;rw[hl];exact⟨_,rfl,ra,rc,rfl,hR,b⟩
structure PlB (w2:ay) (n:Nat) (st:List Int) (ho sh ex:Int) (gp:Nat) (W:ay) (va:Option Addr) (vc:Nat):Prop where
 dQ:Z w2 W
 row:W.ownsRow w2.heap.size 3 1 (.slice va n vc) n (A3.ints st)
 blk:W.heap[gp]?=some (.cells #[.slice va n vc,J ho,J sh,J ex] 248 (0,0))
 lo:w2.heap.size<=gp
 ne:(Value.slice va n vc).ownBlock≠some gp
def Tryz.aaY:(prog.info? 248).map (·.size)=some 4:=aF
theorem yw (c:Cf) (now:Int):∀(l:List Int) (js:List Jv),(tV c now l js).length=l.length
 | [],_=>rfl
 | n::l,js=>by unfold tV;rw[dK,yw c now l,dK]
structure StT (amW lab:Nat->Nat) (w0 w2 w6 W:ay) (x:Nat) (s:Sv) (e0:Hg) (l:List Int) (evv:Value) (P:EM) (uN:List Pe):Prop where
 cr:∃L F,iH lab W x s.cf s.now s.hd s.la (dA s.cf s.now l s.js) L F P/\kY (dA s.cf s.now l s.js) L/\kH s.cf (dA s.cf s.now l s.js) F
 ps:P.ps.map Pj.v=dA s.cf s.now l s.js
 mv:Mv amW lab w0 W
 ev:yu lab w0.heap.size W evv uN
 evs:uN.map Pe.v=e0::tV s.cf s.now l s.js
 lo:∀g,evv.ownBlock=some g->g<w2.heap.size\/w6.heap.size<=g
 arM:∀j,w2.heap.size<=j->j<w6.heap.size->W.heap[j]?=w6.heap[j]?
 l9:∀j,w2.heap.size<=j->j<w6.heap.size->lab j=9
 sz:w6.heap.size<=W.heap.size
structure XpB (x gp:Nat) (A B:Array Value) (v:ay):Prop where
 a:v.heap[x]?=some (.cells A 100 (0,0))
 p:v.heap[gp]?=some (.cells B 248 (0,0))
abbrev Xq (x gp:Nat) (s:Sv) (P:EM) (va:Option Addr) (k vc:Nat) (ho sh ex:Int):ay->Prop:=XpB x gp (coreC s.cf s.now P.t P.d P.jo P.ps.length P.cap s.hd P.wm P.a P.b) #[.slice va k vc,J ho,J sh,J ex]
def adW (h:iH lab w x s.cf s.now s.hd s.la s.js L F P) (v:Kept s) (ha:I5 s) (hps:P.ps.map Pj.v=s.js) (hL:kY s.js L) (hF:kH s.cf s.js F) (hp0:gU s.js≠0):
  Calls prog 149 #[.pointer (some ⟨x,0,none⟩)] w fun e w'=>∃u,e=.returned u/\∃uN:List Pe,uN.map Pe.v=⟨5,0,s.now,0,0,(f_ s).map Pr.a⟩::(tV s.cf s.now (bQ s).st s.js++if (bQ s).ho≠ -1/\(bQ s).ho≠s.hd then [⟨4,(bQ s).ho,s.now,0,0,[]⟩]else [])/\∃lab',Cr lab' w' x {s with js:=dA s.cf s.now (bQ s).st s.js,hd:=(bQ s).ho}/\Mv lab lab' w w'/\yu lab' w.heap.size w' u uN:=by
 have x13:w.cell? ⟨x,13,none⟩=some (.map (some P.wm)):=h.cell rfl;have hln:=h.wait.len (ty:=3);have hpe:((gU s.js:Nat):Int)≠0:=ak;have hpd:=dH hpe;have hpb:(((gU s.js:Nat):Int)==0)=false:=by simpa using hpe
 have hin:=Dz h v hps;have hfits:=v.fits ha;have hmid:=fun(l m:List Int) (e:l++m=(bQ s).st)=>Mg l v (m:=m) (by rw[e];exact hfits);have ai7:(bQ s).st.length<=256:=by
  refine bM (Me (fun j hj=>?_) hfits) ?_
  ·have⟨n,hn⟩:=kS hj;exact(v.ok.head hn).2.2.1
  ·have:=v.ok.mH;have:=v.rng.n1;omega
 have awe:=v.Vn;have hfv:=V6 v hF;have hrp:=VR hL;have kI:=v.ok.many;have hrl:=VZ s;have hn0:=v.ok.n0;have hn1:=v.ok.n1;have hl1:=v.rng.l1;have hLl:=Bn hL;have hwl:(eX s).length=(f_ s).length:=by unfold eX;simp
 have hwj:∀z∈eX s, -9223372036854775808<=z.job/\z.job<=9223372036854775807:=fun z hz=>by obtain⟨n,j,hj,_,rfl⟩:=um hz;have:=(bO.1 hj).1;show -9223372036854775808<=(n:Int)/\(n:Int)<=9223372036854775807;omega
 have Pd:Hid (∀(W:ay) (wa ra:Option Addr) (wc rc:Nat),Pq.kK W wa (eX s)->Pq.eO W ra (A3.rH (GD s.js) L)->Calls prog 192 #[J s.now,J (dz s),.slice wa (f_ s).length wc,J s.hd,.slice ra L.length rc] W fun e w'=>∃va vc,e=.returned (.tuple #[.agg #[.slice va (bQ s).st.length vc,J (bQ s).ho,J (bQ s).sh,J (bQ s).ex],J 0])/\w'.ownsRow W.heap.size 3 1 (.slice va (bQ s).st.length vc) (bQ s).st.length (A3.ints (bQ s).st)/\Z W w'):=fun W wa ra wc rc hW hR=>by
  have hl:(A3.rH (GD s.js) L).length=L.length:=by unfold A3.rH;simp
  have hc1:=Pq.Pr.aaM.2 awe;have e1:Pq.Pr.jK s.now (dz s) (eX s) s.hd (A3.rH (GD s.js) L)=bQ s:=by rw[Pq.Pr.adb hrp];rfl
  have hq:=Pq.aiB (c:=rc) (cw:=wc) hR (by rw[hl];omega) hW (by rw[hwl];omega) hwj s.now (dz s) s.hd (by rw[Pq.Pr.ahU hrp];exact hc1)
  rw[e1,hl,hwl]at hq;refine hq.mono ?_;rintro e w' ⟨u,rfl,hrow,b⟩;obtain⟨va,vc,rfl⟩:=bE hrow;exact⟨va,vc,rfl,hrow,b⟩
 have Pf:Hid (∀ {lab:Nat->Nat} {W:ay},iH lab W x s.cf s.now s.hd s.la s.js L F P->_):=fun {lab W} h=>V7 h hps hL kI;have Pg:Hid (∀(W:ay),N2.fH W P.b s.cf.nodes.toNat F->Calls prog 119 #[.pointer (some ⟨P.b,0,none⟩)] W fun e w'=>e=.returned (J (dz s))/\w'=W):=fun W hS=>by rw[← hfv];exact N2.Ey P.b s.cf.nodes.toNat F W hS
 have awg:Hid _:=hmid;have HCR:Hid (∃L F,iH lab w x s.cf s.now s.hd s.la (dA s.cf s.now [] s.js) L F P/\kY (dA s.cf s.now [] s.js) L/\kH s.cf (dA s.cf s.now [] s.js) F):=⟨L,F,h,hL,hF⟩;have HPS:Hid _:=hps;have HWL:Hid _:=hwl;have⟨st,hst⟩:=aZ ((bQ s).st);have⟨ho,hho⟩:=aZ ((bQ s).ho);have⟨sh,hsh⟩:=aZ ((bQ s).sh);have⟨ex,hex⟩:=aZ ((bQ s).ex);have⟨rk,Zg⟩:=aZ ((f_ s).map Pr.a);have⟨ws,hws⟩:=aZ (eX s);have arN:(f_ s).length=rk.length:=by rw[← Zg,dL]
 have⟨q,hq⟩:=aZ ((f_ s).length);have⟨ns,hns⟩:=aZ st.length;rw[hst,hho,hsh,hex,hws,hq,hns]at Pd;rw[hst]at ai7 awg;rw[hst,hho,Zg];rw[Zg,hws,hq]at hin;rw[hws,hq]at HWL;rw[hq]at hrl arN;rw[hns]at ai7;have HRK:Hid _:=arN;have HNS:Hid _:=hns;have H:Hid _:=h;have aGX:=h.Gv;clear h hps hL hF hfits awe hrp hwl hwj hst hho hsh hex Zg hws hq hns arN hmid hfv hpe hp0 ha v;go_enter func149,ntmps149;go_upto_region 5 with(go_at_call 191;refine hin.mono ?_;rintro e w1 ⟨ov,wv,rfl,hro,hrw,b1⟩;obtain⟨oa,oc,rfl⟩:=bE hro;obtain⟨wa,wc,rfl⟩:=bE hrw;have c8:w1.cell? ⟨x,8,none⟩=some (J s.now):=(H.out.below b1).cell rfl)
 have⟨w2,hw2⟩:=aZ (w1.alloc (.cells #[J 5,J 0,J s.now,J 0,J 0,.slice oa q oc] 65));have b2:Z w1 w2.drew:=by rw[← hw2];exact dY.trans (aA _ |>.mono dF)
 have hG2:w2.drew.heap[w1.heap.size]?=some (.cells #[J 5,J 0,J s.now,J 0,J 0,.slice oa q oc] 65 (0,0)):=by rw[← hw2];exact aK w1 _
 have hz2:w2.drew.heap.size=w1.heap.size+1:=by rw[← hw2];show (w1.alloc _).heap.size=_;rw[iI]
 have B2:=b1.trans (b2.mono b1.size);have hwz:=b1.size;have h2:=H.out.below B2;have M2:Mv lab lab w w2.drew:=Mv.of_below B2;have hE2:yu lab w.heap.size w2.drew (.slice (some ⟨w1.heap.size,0,none⟩) 1 1) [⟨⟨5,0,s.now,0,0,rk⟩,oa,oc⟩]:=by rw[HRK.out]at hro;obtain⟨sa,sc,e1,i1⟩:=xD hro (lab:=lab) (fun g hg=>H.out.top g (hro.lt g hg).1);rw[HRK.out]at hG2;injection e1 with e1 _ e3;subst e1;subst e3;have i2:=og (lab':=lab) (W':=w2.drew) i1 ak (fun _ _ h=>h) (fun g o k e=>b2.block g (i1.own g o k e).2.2.1);exact arL (e:=⟨5,0,s.now,0,0,rk⟩) hG2 (H.out.top _ hwz) hwz i2 (fun g o k e=>by have:=(i1.own g o k e).2.2.1;omega)
 have hwt:Pq.kK w2.drew wa ws:=by rw[← HWL.out]at hrw;have⟨wa',wc',e1,i1⟩:=adV hrw;injection e1 with e1 _ _;subst e1;exact Pq.kK.below i1 b2
 try rw[hw2]
 have H2:Hid _:=h2;have vS:Hid _:=M2;have HE2:Hid _:=hE2;have HWT:Hid _:=hwt;have HZ2:Hid _:=hz2;have HB2:Hid _:=B2;clear h2 M2 hE2 hwt hz2 b2 hG2 hw2 hro hrw b1 c8 HWL B2 hin;apply arK (G:=fun gp W va vc _ _=>PlB w2.drew ns st ho sh ex gp W va vc)
 case main=>
  intro akk;refine aG (S:=(Below w2.drew.heap.size w2.drew)) (L:=99) aF ?_;have bG:(Below w2.drew.heap.size w2.drew) (w2.drew):=aI _ _;have HF:Hid (∀xx:ay,(Below w2.drew.heap.size w2.drew) xx->xx.cell? ⟨x,8,none⟩=some (J s.now)/\xx.cell? ⟨x,15,none⟩=some (.pointer (some ⟨P.b,0,none⟩))/\xx.cell? ⟨x,12,none⟩=some (J s.hd)/\True):=fun xx bJ=>⟨(H2.out.below bJ).cell rfl,(H2.out.below bJ).cell rfl,(H2.out.below bJ).cell rfl,trivial⟩;refine tk 0 ?_;refine tk 1 ?_;refine tk 2 ?_;refine tk 3 ?_;refine tk 4 ?_;refine tk 5 ?_;refine tk 6 ?_;refine tk 7 ?_;refine tk 9 ?_;refine tk 10 ?_;refine tk 11 ?_;refine tk 12 ?_;refine tk 13 ?_;refine tk 14 ?_;refine zo (i:=8) (l:= [20]) aF (vJ.2 ⟨⟨_,rfl,?awh⟩,vJ.2 ⟨⟨_,rfl,?arO⟩,J2 _⟩⟩)
  case awh=>
   intro K hK;go_simp;go_at_call 119;refine(Pg.out _ (H2.out.below bG).free).mono ?_;rintro e wz ⟨rfl,rfl⟩;go_simp;refine jE hK bG ?_;clear hK K;refine zo (i:=15) (l:= [20]) aF (vJ.2 ⟨⟨_,rfl,?arP⟩,vJ.2 ⟨⟨_,rfl,?arQ⟩,J2 _⟩⟩)
   case arP=>
    intro K hK;go_simp;go_at_call 159;refine(Pf.out (H2.out.below bG)).mono ?_;rintro e w3 ⟨_,rfl,ra,rc,rfl,hra,b3⟩;have jG:=kR bG (jm b3 (gN bG));have Mq:Hid _:=hra;clear hra;go_simp;refine jE hK jG ?_;clear hK K;refine zo (i:=16) (l:= [20]) aF (vJ.2 ⟨⟨_,rfl,?arR⟩,vJ.2 ⟨⟨_,rfl,?arS⟩,J2 _⟩⟩)
    case arR=>
     intro K hK;go_simp;go_at_call 192;refine(Pd.out _ wa ra wc rc (Pq.kK.below HWT.out jG) Mq.out).mono ?_;rintro e w4 ⟨va,vc,rfl,hrow4,b4⟩;have yN:=kR jG (jm b4 (gN jG));replace Mq:Hid _:=Pq.eO.below Mq.out b4;have HST:Hid _:=iL hrow4 (gN jG);clear hrow4;go_simp;refine jE hK yN ?_;clear hK K;have HF:Hid (∀xx:ay,(Below w2.drew.heap.size w2.drew) xx->xx.cell? ⟨x,8,none⟩=some (J s.now)/\xx.cell? ⟨x,15,none⟩=some (.pointer (some ⟨P.b,0,none⟩))/\xx.cell? ⟨x,12,none⟩=some (J s.hd)/\True):=fun xx bJ=>⟨(H2.out.below bJ).cell rfl,(H2.out.below bJ).cell rfl,(H2.out.below bJ).cell rfl,trivial⟩;refine tk 17 ?_;refine tk 18 ?_;refine tk 19 ?_;refine last_one (i:=20) aF rfl ?_;intro K hK;have aAL:Hid _:=HST.out;go_simp;have⟨gp,Zh⟩:=aZ w4.heap.size;have⟨w5,RJ⟩:=aZ (w4.alloc (.cells #[.slice none 0 0,J 0,J 0,J 0] 248));have b5:Z w4 w5:=(by rw[← RJ];exact dY);try rw[RJ]
     try rw[Zh]
     have HLO:Hid (w2.drew.heap.size<=gp):=show w2.drew.heap.size<=gp by rw[← Zh];exact gN yN
     have nR:=kR yN (jm b5 (gN yN));replace Mq:Hid _:=Pq.eO.below Mq.out b5;replace HST:Hid _:=eG HST.out b5;have FB:Hid (w5.heap[gp]?=some (.cells #[.slice none 0 0,J 0,J 0,J 0] 248 (0,0))):=(by show w5.heap[gp]?=_;rw[← RJ,<-Zh];exact aK w4 _);have HNE:Hid ((Value.slice va ns vc).ownBlock≠some gp):=fun e=>by have:=(mV aAL.out gp e).2;omega
     clear RJ;skip
     refine jE hK nR ?_;clear hK K;refine last_one (i:=21) aF rfl ?_;intro K hK;rw[aJ iW];refine mW 248 (.tmp 6) (.tmp 46) rfl gp #[.slice va ns vc,J ho,J sh,J ex] gM gM 248 _ FB.out Tryz.aaY rfl Ci ?_;have⟨w6,uH⟩:=aZ (w5.setRow gp #[.slice va ns vc,J ho,J sh,J ex]);rw[uH];have ZL:Hid (PlB w2.drew ns st ho sh ex gp w6 va vc):=(by rw[← uH];exact⟨aH.below (nE (K:=fun k=>k=gp) (aH.refl _ w5) (.inl rfl) _) nR (gN nR) (fun i hi=>by have:=HLO.out;omega),row_of HST.out (fun j hj=>gX _ _ j _ (fun e=>HNE.out (by rw[← e];exact hj))),xI _ _ _ _ _ _ FB.out,HLO.out,HNE.out⟩);refine jE hK ZL.out.dQ ?_;clear hK K uH;refine tL (i:=22) (v:=?aAM) rfl aF aF aF aF rfl (fun _ _ _ h=>h) iW ZL.out.dQ ?amY ?as6
     case amY=>exact ZE
     exact ZK
    case arS=>
     intro K hK;go_simp;have⟨gp,Zh⟩:=aZ w3.heap.size;have⟨w5,RJ⟩:=aZ (w3.alloc (.cells #[.slice none 0 0,J 0,J 0,J 0] 248));have b5:Z w3 w5:=(by rw[← RJ];exact dY);try rw[RJ]
     try rw[Zh]
     have HLO:Hid (w2.drew.heap.size<=gp):=show w2.drew.heap.size<=gp by rw[← Zh];exact gN jG
     have nR:=kR jG (jm b5 (gN jG));replace Mq:Hid _:=Pq.eO.below Mq.out b5;have FB:Hid (w5.heap[gp]?=some (.cells #[.slice none 0 0,J 0,J 0,J 0] 248 (0,0))):=(by show w5.heap[gp]?=_;rw[← RJ,<-Zh];exact aK w3 _);clear RJ;skip
     refine jE hK nR ?_;clear hK K;refine last_one (i:=16) aF rfl ?_;intro K hK;have ai8:Hid _:=FB.out;go_simp;go_at_call 192;refine(Pd.out _ wa ra wc rc (Pq.kK.below HWT.out nR) Mq.out).mono ?_;rintro e w4 ⟨va,vc,rfl,hrow4,b4⟩;have yN:=kR nR (jm b4 (gN nR));replace Mq:Hid _:=Pq.eO.below Mq.out b4;replace FB:Hid _:=(lI b4 gp (aS.1 FB.out).1).trans FB.out;have HNE:Hid ((Value.slice va ns vc).ownBlock≠some gp):=fun e=>by have:=(mV hrow4 gp e).1;have:=(aS.1 ai8.out).1;omega
     have HST:Hid _:=iL hrow4 (gN nR);clear hrow4;go_simp;refine jE hK yN ?_;clear hK K;have HF:Hid (∀xx:ay,(Below w2.drew.heap.size w2.drew) xx->xx.cell? ⟨x,8,none⟩=some (J s.now)/\xx.cell? ⟨x,15,none⟩=some (.pointer (some ⟨P.b,0,none⟩))/\xx.cell? ⟨x,12,none⟩=some (J s.hd)/\True):=fun xx bJ=>⟨(H2.out.below bJ).cell rfl,(H2.out.below bJ).cell rfl,(H2.out.below bJ).cell rfl,trivial⟩;refine tk 17 ?_;refine tk 18 ?_;refine tk 19 ?_;refine last_one (i:=21) aF rfl ?_;intro K hK;rw[aJ iW];refine mW 248 (.tmp 6) (.tmp 46) rfl gp #[.slice va ns vc,J ho,J sh,J ex] gM gM 248 _ FB.out Tryz.aaY rfl Ci ?_;have⟨w6,uH⟩:=aZ (w4.setRow gp #[.slice va ns vc,J ho,J sh,J ex]);rw[uH];have ZL:Hid (PlB w2.drew ns st ho sh ex gp w6 va vc):=(by exact aeY);refine jE hK ZL.out.dQ ?_;clear hK K uH;refine tL (i:=22) (v:=?aAN) rfl aF aF aF aF rfl (fun _ _ _ h=>h) iW ZL.out.dQ ?amZ ?as7
     case amZ=>exact ZE
     exact ZK
   case arQ=>
    intro K hK;go_simp;have⟨gp,Zh⟩:=aZ w2.heap.size;have⟨w5,RJ⟩:=aZ ((w2.alloc (.cells #[.slice none 0 0,J 0,J 0,J 0] 248)).drew);have b5:Below w2.drew.heap.size w2.drew w5:=(by rw[← RJ];exact(show Below w2.heap.size w2.drew (w2.drew.alloc _)from(aI w2.heap.size w2.drew).alloc (show w2.heap.size<=w2.drew.heap.size from aC _) _));try rw[RJ]
    try rw[Zh]
    have HLO:Hid (w2.drew.heap.size<=gp):=show w2.drew.heap.size<=gp by rw[← Zh];exact aC _
    have nR:=kR bG (jm b5 (gN bG));have FB:Hid (w5.heap[gp]?=some (.cells #[.slice none 0 0,J 0,J 0,J 0] 248 (0,0))):=(by show w5.heap[gp]?=_;rw[← RJ,<-Zh];exact aK w2 _);clear RJ;skip
    refine jE hK nR ?_;clear hK K;refine last_one (i:=15) aF rfl ?_;intro K hK;go_simp;go_at_call 159;refine(Pf.out (H2.out.below nR)).mono ?_;rintro e w3 ⟨_,rfl,ra,rc,rfl,hra,b3⟩;have jG:=kR nR (jm b3 (gN nR));replace FB:Hid _:=(lI b3 gp (aS.1 FB.out).1).trans FB.out;have Mq:Hid _:=hra;clear hra;go_simp;refine jE hK jG ?_;clear hK K;refine last_one (i:=16) aF rfl ?_;intro K hK;have ai8:Hid _:=FB.out;go_simp;go_at_call 192;refine(Pd.out _ wa ra wc rc (Pq.kK.below HWT.out jG) Mq.out).mono ?_;rintro e w4 ⟨va,vc,rfl,hrow4,b4⟩;have yN:=kR jG (jm b4 (gN jG));replace Mq:Hid _:=Pq.eO.below Mq.out b4;replace FB:Hid _:=(lI b4 gp (aS.1 FB.out).1).trans FB.out;have HNE:Hid ((Value.slice va ns vc).ownBlock≠some gp):=fun e=>by have:=(mV hrow4 gp e).1;have:=(aS.1 ai8.out).1;omega
    have HST:Hid _:=iL hrow4 (gN jG);clear hrow4;go_simp;refine jE hK yN ?_;clear hK K;have HF:Hid (∀xx:ay,(Below w2.drew.heap.size w2.drew) xx->xx.cell? ⟨x,8,none⟩=some (J s.now)/\xx.cell? ⟨x,15,none⟩=some (.pointer (some ⟨P.b,0,none⟩))/\xx.cell? ⟨x,12,none⟩=some (J s.hd)/\True):=fun xx bJ=>⟨(H2.out.below bJ).cell rfl,(H2.out.below bJ).cell rfl,(H2.out.below bJ).cell rfl,trivial⟩;refine tk 17 ?_;refine tk 18 ?_;refine tk 19 ?_;refine last_one (i:=21) aF rfl ?_;intro K hK;rw[aJ iW];refine mW 248 (.tmp 6) (.tmp 46) rfl gp #[.slice va ns vc,J ho,J sh,J ex] gM gM 248 _ FB.out Tryz.aaY rfl Ci ?_;have⟨w6,uH⟩:=aZ (w4.setRow gp #[.slice va ns vc,J ho,J sh,J ex]);rw[uH];have ZL:Hid (PlB w2.drew ns st ho sh ex gp w6 va vc):=(by exact aeY);refine jE hK ZL.out.dQ ?_;clear hK K uH;refine tL (i:=22) (v:=?aAO) rfl aF aF aF aF rfl (fun _ _ _ h=>h) iW ZL.out.dQ ?am0 ?as8
    case am0=>exact ZE
    exact ZK
  case arO=>
   intro K hK;go_simp;have⟨gp,Zh⟩:=aZ w2.heap.size;have⟨w5,RJ⟩:=aZ ((w2.alloc (.cells #[.slice none 0 0,J 0,J 0,J 0] 248)).drew);have b5:Below w2.drew.heap.size w2.drew w5:=(by rw[← RJ];exact(show Below w2.heap.size w2.drew (w2.drew.alloc _)from(aI w2.heap.size w2.drew).alloc (show w2.heap.size<=w2.drew.heap.size from aC _) _));try rw[RJ]
   try rw[Zh]
   have HLO:Hid (w2.drew.heap.size<=gp):=show w2.drew.heap.size<=gp by rw[← Zh];exact aC _
   have nR:=kR bG (jm b5 (gN bG));have FB:Hid (w5.heap[gp]?=some (.cells #[.slice none 0 0,J 0,J 0,J 0] 248 (0,0))):=(by show w5.heap[gp]?=_;rw[← RJ,<-Zh];exact aK w2 _);clear RJ;skip
   refine jE hK nR ?_;clear hK K;refine last_one (i:=8) aF rfl ?_;intro K hK;go_simp;go_at_call 119;refine(Pg.out _ (H2.out.below nR).free).mono ?_;rintro e wz ⟨rfl,rfl⟩;go_simp;refine jE hK nR ?_;clear hK K;refine last_one (i:=15) aF rfl ?_;intro K hK;go_simp;go_at_call 159;refine(Pf.out (H2.out.below nR)).mono ?_;rintro e w3 ⟨_,rfl,ra,rc,rfl,hra,b3⟩;have jG:=kR nR (jm b3 (gN nR));replace FB:Hid _:=(lI b3 gp (aS.1 FB.out).1).trans FB.out;have Mq:Hid _:=hra;clear hra;go_simp;refine jE hK jG ?_;clear hK K;refine last_one (i:=16) aF rfl ?_;intro K hK;have ai8:Hid _:=FB.out;go_simp;go_at_call 192;refine(Pd.out _ wa ra wc rc (Pq.kK.below HWT.out jG) Mq.out).mono ?_;rintro e w4 ⟨va,vc,rfl,hrow4,b4⟩;have yN:=kR jG (jm b4 (gN jG));replace Mq:Hid _:=Pq.eO.below Mq.out b4;replace FB:Hid _:=(lI b4 gp (aS.1 FB.out).1).trans FB.out;have HNE:Hid ((Value.slice va ns vc).ownBlock≠some gp):=fun e=>by have:=(mV hrow4 gp e).1;have:=(aS.1 ai8.out).1;omega
   have HST:Hid _:=iL hrow4 (gN jG);clear hrow4;go_simp;refine jE hK yN ?_;clear hK K;have HF:Hid (∀xx:ay,(Below w2.drew.heap.size w2.drew) xx->xx.cell? ⟨x,8,none⟩=some (J s.now)/\xx.cell? ⟨x,15,none⟩=some (.pointer (some ⟨P.b,0,none⟩))/\xx.cell? ⟨x,12,none⟩=some (J s.hd)/\True):=fun xx bJ=>⟨(H2.out.below bJ).cell rfl,(H2.out.below bJ).cell rfl,(H2.out.below bJ).cell rfl,trivial⟩;refine tk 17 ?_;refine tk 18 ?_;refine tk 19 ?_;refine last_one (i:=21) aF rfl ?_;intro K hK;rw[aJ iW];refine mW 248 (.tmp 6) (.tmp 46) rfl gp #[.slice va ns vc,J ho,J sh,J ex] gM gM 248 _ FB.out Tryz.aaY rfl Ci ?_;have⟨w6,uH⟩:=aZ (w4.setRow gp #[.slice va ns vc,J ho,J sh,J ex]);rw[uH];have ZL:Hid (PlB w2.drew ns st ho sh ex gp w6 va vc):=(by exact aeY);refine jE hK ZL.out.dQ ?_;clear hK K uH;refine tL (i:=22) (v:=?aAP) rfl aF aF aF aF rfl (fun _ _ _ h=>h) iW ZL.out.dQ ?am1 ?as9
   case am1=>exact ZE
   exact ZK
 case fin=>
  intro gp w6 va vc ra rc hG;have hbel:=hG.dQ;have hz6:=hbel.size;have hz1:w1.heap.size<w2.drew.heap.size:=by have:=HZ2.out;omega
  have awi:∃L F,iH lab w6 x s.cf s.now s.hd s.la (dA s.cf s.now [] s.js) L F P/\kY (dA s.cf s.now [] s.js) L/\kH s.cf (dA s.cf s.now [] s.js) F:=by have⟨L',F',h1,h2,h3⟩:=HCR.out;exact⟨L',F',(h1.below HB2.out).below hbel,h2,h3⟩
  have hE6:=HE2.out.below hbel;have Sy:=vS.out.below hbel;have aAQ:=(aS.1 hG.blk).1;have hr1:=A3.YT (xs:=st) (by rw[HNS.out];exact hG.row);obtain⟨ra1,rc1,rg,ro,re,rh,Iy⟩:=hr1;injection re with re1 re2 re3;subst re1;clear re2 re3;have HR1:Hid (∀(j:Nat) (n:Int),st[j]?=some n->va=some ⟨rg,ro,none⟩/\w6.cell? ⟨rg,ro+j,none⟩=some (J n)/\w2.drew.heap.size<=rg/\rg<w6.heap.size):=fun j n hj=>by
   have hl:0<st.length:=by have:=(bO.1 hj).1;omega
   have e:=rh hl;refine⟨e,Iy j n hj,?_⟩;exact mV hG.row rg (by rw[e];rfl)
  have oQ:Hid (StT lab lab w w2.drew w6 w6 x s ⟨5,0,s.now,0,0,rk⟩ [] (.slice (some ⟨w1.heap.size,0,none⟩) 1 1) P [⟨⟨5,0,s.now,0,0,rk⟩,oa,oc⟩]):=
   ⟨awi,HPS.out,Sy,hE6,rfl,fun g hg=>.inl (by simp[Value.ownBlock]at hg;omega),fun _ _ _=>rfl,fun j h1 _=>H2.out.top j h1,aC _⟩
  have cg0:=fK 0 hG.blk;have HG:Hid _:=hG;clear hG hbel awi hE6 Sy Iy rh H2 vS HE2 HWT HB2 HCR Pd Pf Pg H HPS;go_wp2;clear cg0;go_loopg [5,9,51] ns (fun gk ev u p wr=>∃(k:Nat),k+gk=ns/\p=J k/\∃lab' P' uN,StT lab lab' w w2.drew w6 wr x s ⟨5,0,s.now,0,0,rk⟩ (st.take k) ev P' uN)
  case atStart=>exact⟨0,by omega,rfl,lab,P,_,by rw[xL];exact oQ.out⟩
  case round=>
   obtain⟨k,hk,rfl,oh,P2,uN,hT⟩:=hrel;by_cases hlt:k<ns
   ·have hlt':(k:Int)<ns:=ak;obtain⟨z,hz'⟩:∃z,st[k]?=some z:=⟨_,aY (by rw[HNS.out];exact hlt)⟩;obtain⟨rfl,rcn,rg1,rg2⟩:=HR1.out k z hz';have avR:=(SF (hT.arM rg rg1 rg2)).trans rcn;have etk:st.take (k+1)=st.take k++ [z]:=(by rw[kT,hz'];rfl);have edr:st.take k++z::st.drop (k+1)=st:=(by have hk':=(bO.1 hz').1;have e:z::st.drop (k+1)=st.drop k:=(by rw[tu hk',(bO.1 hz').2]);rw[e,Fq]);have⟨vm,fm⟩:=awg.out (st.take k) (z::st.drop (k+1)) edr;obtain⟨n,j,rfl,hj,hj1,hsb,hnd,hfl,hgv,aGZ,aAR⟩:=VT vm fm;simp only at hj hfl hgv aAR;have⟨L2,F2,h2,hL2,hF2⟩:=hT.cr;obtain⟨p,hp,hpv⟩:∃p,P2.ps[n]?=some p/\p.v=j:=(by have:=hj;exact an3);subst hpv;have hnl:n<4096:=(by have h1:=(bO.1 hj).1;rw[xY]at h1;omega);have aAS:=Bn hL2;rw[xY]at aAS;have hvl:=adU vm hF2 p.v.nd.toNat;have hll:((dZ s.cf.nodes (dA s.cf s.now (st.take k) s.js)).take p.v.nd.toNat).length=p.v.nd.toNat:=(by rw[vX];omega);have hfr:=xk hF2 ⟨vm.rng.n0,vm.rng.n1⟩;have hlF:p.v.nd.toNat<=(N2.Nd.mI F2).length:=(by rw[hfr,dL];exact hfl);have Yo:=bM hlF (N2.Nd.Q5 F2);have Yw:=amm hL2 hj ak;have ai9:=adh hL2 (f:=dR s.now ((dZ s.cf.nodes (dA s.cf s.now (st.take k) s.js)).take p.v.nd.toNat)) hj ak rfl;have RL:=YS vm hF2 hj (by show p.v.st≠2;omega) (now:=s.now) hfl;have e1:=L_ (c:=s.cf) (now:=s.now) (n:Int) (st.take k) s.js;have e2:=Ma (c:=s.cf) (now:=s.now) (n:Int) (st.take k) s.js;rw[gJ,hgv]at e1 e2;have⟨l,hl⟩:=aZ ((dZ s.cf.nodes (dA s.cf s.now (st.take k) s.js)).take p.v.nd.toNat);rw[hl]at e1 e2 hll hvl ai9 RL;rw[← hll]at hvl hlF Yo RL;have hstart:=adT h2 hp ak hj hj1 hvl ak ak hlF Yo ak ak Yw ak;have hpl:uN.length<=258:=(by have:=aP List.length hT.evs;rw[dL,dK]at this;have h2:(tV s.cf s.now (st.take k) s.js).length=(st.take k).length:=yw _ _ _ _;rw[vX]at h2;omega);have⟨i0,hi0,hi1,hi2,hi3⟩:=fA Tryz.aiG;obtain⟨ea,ec,rfl⟩:=bE hT.ev.row;have HT:Hid _:=hT;have HD2:Hid _:=ai9;have MW:Hid _:=RL;have WR:Hid _:=e1;have HEE:Hid _:=e2;have Y2:Hid _:=etk;have HP:Hid _:=hp;have hg5:5<=w.heap.size:=ak;have hwz:=hT.mv.fF.size;have hsz:=hT.sz;have aG0:=Yo;clear hT h2 hj ai9 RL e1 e2 etk edr vm fm hgv hl hll hvl hlF Yo hfr Yw hL2 hF2 hfl rcn hp;go_wp2_with (first
     | (go_at_call 193;refine hstart.mono ?_;rintro e w3 ⟨u3,rfl,sa,sc,rfl,hsq⟩;obtain⟨xw,g3,h3,M3,i3⟩:=hsq;have H3:Hid _:=h3;have yK:Hid _:=M3;have HI3:Hid _:=i3;have HE3:Hid _:=HT.out.ev.mv M3;have hz3:=M3.fF.size;clear h3 M3 i3;unfold yX)
     | (at_builtin;refine jD rfl (.tmp 55) (.tmp 59) 35 rfl w.heap.size 65 i0 _ 6 64 underlying35 hi0 hi1 hi2 hi3 rfl aT (.slice ea uN.length ec) uN.length (iE uN) gM (Cv HE3.out.row _) (some ⟨w3.heap.size,0,none⟩) 1 1 (iE [⟨⟨2,n,s.now,0,0,l⟩,sa,sc⟩]) gM (fun e=>by cases e) rfl (fun ad e=>by cases e;exact vI (cs:=yX ⟨2,n,s.now,0,0,l⟩ (.slice sa l.length sc)) (aK w3 _)) (qD _) (by unfold maxLen;omega) ak fE ?_;intro v5 w5 Mi hgr5 aiV;obtain⟨ea5,ec5,rfl⟩:=bE Mi))
    have⟨Wa,hWa⟩:=aZ (w3.alloc (.cells #[J 2,J n,J s.now,J 0,J 0,.slice sa l.length sc] 65));have ba:Z w3 Wa:=(by rw[← hWa];exact dY);have hza:Wa.heap.size=w3.heap.size+1:=(by rw[← hWa];simp);have Ph:Wa.grownBy w5 (Value.slice ea uN.length ec).ownBlock:=(by rw[← hWa];exact hgr5);have ai_:(Value.slice ea5 (uN.length+1) ec5).ownBlock=(Value.slice ea uN.length ec).ownBlock\/(Value.slice ea5 (uN.length+1) ec5).ownBlock=some Wa.heap.size:=(by rw[← hWa];exact aiV);have aja:=Mi;have H3b:=H3.out.below ba;have hEb:=HE3.out.below ba;have hIb:=og (lab':=xw) (W':=Wa) HI3.out ak (fun _ _ h=>h) (fun g o k e=>ba.block g (HI3.out.own g o k e).2.2.1);have V9:∀g,(Value.slice ea uN.length ec).ownBlock=some g->w.heap.size<=g/\g<wr.heap.size:=fun g hg=>yu.lt HT.out.ev hg;have hE5:=hEb.app (B':=wr.heap.size) (qs:= [⟨⟨2,n,s.now,0,0,l⟩,sa,sc⟩]) hwz (fun g hg=>(V9 g hg).2) (fun p hp=>by simp at hp;subst hp;exact hIb) (H3b.top _ (aC _)) aja Ph ai_;have h5:=H3b.grown Ph (fun g hg=>⟨HE3.out.l9 g hg,by have:=(V9 g hg).1;omega⟩);have M5:=((HT.out.mv.trans yK.out).below ba).grown Ph (fun g hg=>(V9 g hg).1);have Uz:=Ph.size;have apA:∀j,w2.drew.heap.size<=j->j<w6.heap.size->w5.heap[j]?=w6.heap[j]?:=fun j h1 h2=>by
     have hne:some j≠(Value.slice ea uN.length ec).ownBlock:=fun e=>by
      rcases HT.out.lo j e.symm with h | h
      ·omega
      ·omega
     rw[Ph.block j ak hne,ba.block j ak,yK.out.fF.block j ak (by unfold Own;rw[HT.out.l9 j h1 h2];decide),HT.out.arM j h1 h2]
    have H5:Hid (StT lab xw w w2.drew w6 w5 x s ⟨5,0,s.now,0,0,rk⟩ (st.take (k+1)) (.slice ea5 (uN.length+1) ec5) _ _):=⟨⟨_,_,by rw[Y2.out,WR.out];exact h5,by rw[Y2.out,WR.out];exact HD2.out,by rw[Y2.out,WR.out];exact MW.out⟩,by
      rw[Y2.out,WR.out,<-HT.out.ps]
      exact LJ HP.out _ rfl,M5,hE5,by
      rw[Y2.out,HEE.out,p9,HT.out.evs]
      rfl,fun g hg=>by
      rcases ai_ with e | e
      ·exact HT.out.lo g (e▸hg)
      ·rw[e]at hg
       cases hg
       exact .inr ak,apA,fun j h1 h2=>by rw[yK.out.old j ak];exact HT.out.l9 j h1 h2,by omega⟩
    clear h5 M5 hE5 H3b hEb Mi hgr5 aiV aja Ph ai_ hstart apA ba hWa hIb;go_wp2;go_roundg (ns - (k+1))
    case measure=>omega
    case rel=>exact⟨k+1,by omega,by go_num,xw,_,_,H5.out⟩
   ·have hlt':¬(k:Int)<ns:=ak;obtain rfl:k=ns:=ak;rw[← HNS.out,oC]at hT;have⟨L2,F2,h2,hL2,hF2⟩:=hT.cr;have arT:=(hT.arM gp HG.out.lo aAQ).trans HG.out.blk;have T0:XpB x gp _ _ wr.drew:=⟨h2.blk,arT⟩;have HT:Hid _:=hT;have H2:Hid _:=h2;have HT0:Hid _:=T0;have HL2:Hid _:=hL2;have MW:Hid _:=hF2;have HGB:Hid _:=arT;have hpl:uN.length<=258:=(by have:=aP List.length hT.evs;rw[dL,dK,yw]at this;have hns:=HNS.out;omega);obtain⟨ea,ec,rfl⟩:=bE hT.ev.row;clear hT h2 T0 hL2 hF2 arT;go_upto_region 11 with fail
    refine aG (S:=Xq x gp s P2 va k vc ho sh ex) (L:=99) aF ?_;have bG:=HT0.out;have HF:Hid (∀xx:ay,Xq x gp s P2 va k vc ho sh ex xx->xx.cell? ⟨x,12,none⟩=some (J s.hd)/\xx.cell? ⟨gp,1,none⟩=some (J ho)/\True):=fun xx bJ=>⟨aj bJ.a rfl,aj bJ.p rfl,trivial⟩;refine tk 0 ?_;refine tk 1 ?_;refine tk 2 ?_;refine tk 3 ?_;by_cases h1:ho= -1
    ·have hno:¬(ho≠ -1/\ho≠s.hd):=fun e=>e.1 h1;rw[show (ho != -1)=false by simp[h1]];refine sk 4 ?_;refine sk 5 ?_;refine sk 6 ?_;refine sk 7 ?_;refine sk 8 ?_;refine sk 9 ?_;refine sk 10 ?_;refine tk 11 ?_;refine aO aF ?_ _;clear h1;exact atu
    ·rw[show (ho != -1)=true by simpa using h1];refine tk 4 ?_;refine tk 5 ?_;refine tk 6 ?_;refine tk 7 ?_;refine tk 8 ?_;by_cases h3:ho=s.hd
     ·have hno:¬(ho≠ -1/\ho≠s.hd):=fun e=>e.2 h3;have n3:(ho != s.hd)=false:=(by simp[h3]);refine tk 9 ?_;refine tk 10 ?_;refine tk 11 ?_;refine aO aF ?_ _;clear h1 h3 n3;exact atu
     ·have d1:=dH h1;have n1:(ho != -1)=true:=(by simpa using h1);have d3:=dH h3;have n3:(ho != s.hd)=true:=(by simpa using h3);refine tk 9 ?_;refine tk 10 ?_;refine tk 11 ?_;refine aO aF ?_ _;clear bG;have H2d:Hid _:=(H2.out.below (aA wr)).below (aA wr.drew);have HTd:Hid _:=(HT.out.ev.below (aA wr)).below (aA wr.drew);have HMd:Hid _:=(HT.out.mv.below (aA wr)).below (aA wr.drew);have O8:w6.heap.size<=wr.drew.drew.heap.size:=HT.out.sz;have HTV:Hid (Xq x gp s P2 va k vc ho sh ex wr.drew.drew):=⟨H2d.out.blk,HGB.out⟩;have⟨i0,hi0,hi1,hi2,hi3⟩:=fA Tryz.aiG;have hg5:5<=w.heap.size:=ak;go_upto_region 12 with fail
      refine aG (S:=(Xq x gp s P2 va k vc ho sh ex)) (L:=99) aF ?_;generalize wr.drew.drew=V0 at H2d HTd HMd O8 HTV ⊢;have⟨Wa,hWa⟩:=aZ (V0.alloc (.cells #[J 4,J ho,J s.now,J 0,J 0,.slice none 0 0] 65));have ba:Z V0 Wa:=(by rw[← hWa];exact dY);have hza:Wa.heap.size=V0.heap.size+1:=(by rw[← hWa];simp);have HGa:Hid (Wa.heap[V0.heap.size]?=some (.cells (yX ⟨4,ho,s.now,0,0,[]⟩ aV) 65 (0,0))):=(by show Wa.heap[V0.heap.size]?=_;rw[← hWa];exact aK V0 _);have hwV:=HMd.out.fF.size;have H2b:Hid _:=H2d.out.below ba;have HEb:Hid _:=HTd.out.below ba;have bG:=HTV.out;have HF:Hid (∀xx:ay,(Xq x gp s P2 va k vc ho sh ex) xx->xx.cell? ⟨x,8,none⟩=some (J s.now)/\xx.cell? ⟨gp,1,none⟩=some (J ho)/\True):=fun xx bJ=>⟨aj bJ.a rfl,aj bJ.p rfl,trivial⟩;refine tk 0 ?_;refine tk 1 ?_;refine tk 2 ?_;refine tk 3 ?_;refine tk 4 ?_;refine tk 5 ?_;refine tk 6 ?_;refine tk 7 ?_;refine last_one (i:=8) aF rfl ?_;intro K hK;go_simp;try rw[hWa]
      have WU:(Xq x gp s P2 va k vc ho sh ex) Wa:=⟨(ba.block x H2d.out.xlt).trans bG.a,(ba.block gp (aS.1 bG.p).1).trans bG.p⟩;refine jE hK WU ?_;clear hK K;refine last_one (i:=9) aF rfl ?_;intro K hK;refine Cu _ iW (.tmp 74) (.tmp 82) 35 iW w.heap.size 65 i0 _ 6 64 underlying35 hi0 hi1 hi2 hi3 rfl aT (.slice ea uN.length ec) uN.length (iE uN) gM HEb.out.row ⟨V0.heap.size,0,none⟩ 1 1 (iE [⟨⟨4,ho,s.now,0,0,[]⟩,none,0⟩]) gM rfl (vI (cs:=yX ⟨4,ho,s.now,0,0,[]⟩ aV) HGa.out) (qD _) ak (by unfold maxLen;omega) ak ak Wa.heap.size rfl ?_;intro g9 aAT w9 apB adX awl hg9;have V9:∀g,(Value.slice ea uN.length ec).ownBlock=some g->w.heap.size<=g/\g<V0.heap.size:=fun g hg=>yu.lt HTd.out hg;have aAU:=(aS.1 WU.p).1;have hxl:=(aS.1 WU.a).1;have aG3:=HG.out.lo;have aAV:some gp≠(Value.slice ea uN.length ec).ownBlock:=fun e=>by rcases HT.out.lo gp e.symm with h | h<;>omega
      have hxe:some x≠(Value.slice ea uN.length ec).ownBlock:=fun e=>by have:=HTd.out.l9 x e.symm;have:=H2d.out.lx;omega
      have HS9:(Xq x gp s P2 va k vc ho sh ex) w9:=⟨(adX.block x hxl hxe).trans WU.a,(adX.block gp aAU aAV).trans WU.p⟩;have hE9:=HEb.out.app (v':=.slice (some ⟨g9,0,none⟩) (uN.length+1) aAT) (B':=V0.heap.size) (qs:= [⟨⟨4,ho,s.now,0,0,[]⟩,none,0⟩]) HMd.out.fF.size (fun g hg=>(V9 g hg).2) (fun p hp=>by simp at hp;subst hp;exact jV _ _ _) (H2b.out.top _ (aC _)) apB adX (by rcases awl with e | e;exact .inl e.symm;exact .inr (by rw[e];rfl));have h9:=H2b.out.grown adX (fun g hg=>⟨HTd.out.l9 g hg,by have:=(V9 g hg).1;omega⟩);have M9:=(HMd.out.below ba).grown adX (fun g hg=>(V9 g hg).1);have H9:Hid _:=h9;have HM9:Hid _:=M9;have HE9:Hid _:=hE9;clear apB adX awl h9 M9 hE9 V9;go_simp;refine jE hK HS9 ?_;clear hK K;refine tk 10 ?_;refine aO aF ?_ _;have HB9:Hid _:=HS9.p;clear WU HS9;have x12:w9.cell? ⟨x,12,none⟩=some (J s.hd):=H9.out.cell rfl;have f12:w9.frozen? ⟨x,12,none⟩=false:=aD H9.out.blk;have p1:=fK 1 HB9.out;have h7:=H9.out.field (q:=12) (v:=J ho) (now':=s.now) (hd':=ho) rfl;have M7:=HM9.out.trans (vZ (q:=12) (v:=J ho) H9.out.lx);have hE7:=HE9.out.mv (vZ (q:=12) (v:=J ho) H9.out.lx);have H7:Hid _:=h7;have HM7:Hid _:=M7;have HE7:Hid _:=hE7;clear h7 M7 hE7;go_wp2;go_ret;refine⟨_,rfl,_,?_,oh,⟨P2,L2,F2,H7.out,HT.out.ps,HL2.out,MW.out⟩,HM7.out,HE7.out⟩;rw[p9,HT.out.evs];rfl
end
end Go.Proofs.YtdhifkbbjlhcaaaGreatDoor
