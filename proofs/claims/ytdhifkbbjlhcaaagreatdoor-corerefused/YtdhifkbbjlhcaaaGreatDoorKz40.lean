import Derived.Test.YtdhifkbbjlhcaaaGreatDoorKz32
set_option maxRecDepth 20000
set_option maxHeartbeats 2000000
set_option linter.defProp false
namespace Go.Proofs.YtdhifkbbjlhcaaaGreatDoor
open Go.Proofs.Tryz
variable {W:ay} {g:Nat} {lab:Nat->Nat}
section
open Go.RowKit Wd Tr Cg Ld
section
variable {lab:Nat->Nat} {w:ay} {x:Nat} {c:Cf} {now hd:Int} {la:List Ac} {jw:List Jv} {L:List A3.Ag.En} {F:Nat} {P:EM}
def DC (h:iH lab w x c now hd la jw L F P) (hz:P.ps.length<=1000000) (k:Int):Calls prog 102 #[.pointer (some ⟨x,0,none⟩),J k] w fun e w'=>e=.returned (.bool (decide (0<=k)&&decide (k<=(P.ps.length:Int) - 1)))/\w'=w:=by
 have JA:w.cell? ⟨x,11,none⟩=some (.slice P.jo P.ps.length P.cap):=h.cell rfl;clear h;go_enter func102,ntmps102;go_wp2_with (go_at_call 106;refine(yj _ _ _ _).mono ?_;rintro e w1 ⟨rfl,rfl⟩)
 go_ret;exact⟨rfl,rfl⟩
def aaS {oh:Nat->Nat} {w2 w3:ay} (h:iH oh w2 x c now hd la jw L F P) (M:Mv lab oh w w2) {n:Nat} {p:Pj} {st:Int} (hp:P.ps[n]?=some p) (k3:aH (fun k=>oh k=3) w2 w3) (hR:uq (fun k=>oh k=3) w3 P.jo P.cap (P.ps.set n (endP st now p))) (l9:oh w.heap.size=9) (hz:w.heap.size<w2.heap.size) (h5:5<=w.heap.size) (cs:Array Value):
  ∃lab',iH lab' (w3.setRow w.heap.size cs) x c now hd la jw L F {P with ps:=P.ps.set n (endP st now p)}/\Mv lab lab' w (w3.setRow w.heap.size cs):=by
 refine⟨uF oh 3 w2.heap.size w3.heap.size,?_,(M.trans (Mv.lift aT k3)).ret (aC _) _⟩;have h3:=h.Yr k3 (ps':=P.ps.set n (endP st now p)) (Fz ..) (fun q hq=>by
  rcases PO hq with hq | rfl
  ·exact h.sets q hq
  ·have:=h.sets p (dW hp)
   exact⟨this.at_,this.nil,this.cap,this.few,this.own⟩) (hR.mono (fun _ _ hl=>.inl hl))
 grind[iH.ret,fu]
def aiE (h:iH lab w x c now hd la jw L F P) {n:Nat} {p:Pj} (hp:P.ps[n]?=some p) (hn:n<=1000000) (hj:jw[n]?=some p.v) (h1:p.v.st=1):
  Calls prog 104 #[.pointer (some ⟨x,0,none⟩),J n] w fun e w'=>e=.returned (.agg (yX (gV n 6 now) aV))/\∃lab',iH lab' w' x c now (if hd=n then -1 else hd) la (bX jw n (fQ 6 now)) L F {P with ps:=P.ps.set n (endP 6 now p)}/\Mv lab lab' w w':=by
 have⟨W,hW⟩:=aZ (w.alloc (.cells #[J 0,J 0,J 0,J 0,J 0,.slice none 0 0] 65));have bW:Z w W:=by rw[← hW];exact dY
 have hE:=hW▸YR w;have l9:=h.top _ (aC _);have iX:5<=w.heap.size:=h.Gv;have oz:w.heap.size<W.heap.size:=by rw[← hW];simp
 have h0:=h.below bW;have M0:Mv lab lab w W:=Mv.of_below bW;have x13:W.cell? ⟨x,13,none⟩=some (.map (some P.wm)):=h0.cell rfl;have⟨w1,hrun,hW1,ht1⟩:=h0.wait.drop hj h1 (f:=fQ 6 now) (by show (6:Int)≠1;decide) (vB ak) 0;have k1:aH (fun k=>lab k=4) W w1:=(Gt ht1.grown).mono (fun j _ e=>by rw[e];exact h0.lw);have h1':=h0.ah4 k1 hW1;have M1:=M0.trans (Mv.lift aT k1);have hE1:=EvB.fF hE k1 (by rw[l9];decide);have JB:uF lab 4 W.heap.size w1.heap.size w.heap.size=9:=by rw[fu oz];exact l9
 have hz1:=gL oz k1.size;generalize uF lab 4 W.heap.size w1.heap.size=BJ at h1' M1 JB;have x12:w1.cell? ⟨x,12,none⟩=some (J hd):=h1'.cell rfl;have f12:w1.frozen? ⟨x,12,none⟩=false:=aD h1'.blk;have HP:Hid (P.ps[n]?=some p):=hp;have H1:Hid _:=h1';have Bu:Hid _:=M1;have WR:Hid _:=hE1;clear h h0 hE M0 bW h1' M1 hE1 k1 ht1 hW1;go_enter func104,ntmps104;by_cases hh:hd=(n:Int)
 ·rw[aJ hh];have h2:=H1.out.field (q:=12) (v:=J (-1)) (now':=now) (hd':= -1) rfl;have M2:=Bu.out.trans (vZ (q:=12) (v:=J (-1)) H1.out.lx);have hE2:EvB (w1.setCell ⟨x,12,none⟩ (J (-1))) w.heap.size:=EvB.fF WR.out ((aH.refl (fun k=>BJ k=0) w1).setCell _ _ (.inl H1.out.lx)) (by rw[JB];decide);have hz2:w.heap.size<(w1.setCell ⟨x,12,none⟩ (J (-1))).heap.size:=by rw[vV];exact hz1
  have hend:=Ro h2.blk h2.row (by rw[h2.lx];decide) (by rw[h2.top _ (aC _)];decide) hp 6
  have H2:Hid _:=h2;have vS:Hid _:=M2;have HE2:Hid _:=hE2;clear h2 M2 hE2 H1 Bu WR;go_wp2_with (first
   | (go_at_call 143;refine hend.mono ?_;rintro e w3 ⟨rfl,hR3,k3⟩;have⟨ah6,hg3,hs3⟩:=EvB.fF HE2.out k3 (by rw[JB];decide);have Sw:Hid _:=hg3;clear hg3)
   | (refine eF rfl 65 (.tmp 4) (.tmp 21) rfl w.heap.size (yX (gV n 6 now) aV) gM gM 65 ah6 Sw.out Tryz.adj hs3 (by simp[yX,aV,Value.oneCell']) ?_))
  exact LM results104 rfl rfl Sw.out rfl ⟨rfl,aaS H2.out vS.out hp k3 hR3 JB hz2 iX _⟩
 ·rw[au hh];have hbq:(hd==(n:Int))=false:=by simpa using hh
  have hbd:=dH hh;clear hh;have hend:=Ro H1.out.blk H1.out.row (by rw[H1.out.lx];decide) (by rw[H1.out.top _ (aC _)];decide) hp 6;clear hj h1 hp f12;go_wp2_with (first
   | (go_at_call 143;refine hend.mono ?_;rintro e w3 ⟨rfl,hR3,k3⟩;have⟨ah6,hg3,hs3⟩:=EvB.fF WR.out k3 (by rw[JB];decide);have Sw:Hid _:=hg3;clear hg3)
   | (refine eF rfl 65 (.tmp 4) (.tmp 21) rfl w.heap.size (yX (gV n 6 now) aV) gM gM 65 ah6 Sw.out Tryz.adj hs3 (by simp[yX,aV,Value.oneCell']) ?_))
  exact LM results104 rfl rfl Sw.out rfl ⟨rfl,aaS H1.out Bu.out HP.out k3 hR3 JB hz1 iX _⟩
end
end
section
open Go.RowKit Wd Tr Cg Ld
def fM (c:Cd):Array Value:= #[J c.kind,.string c.nm,.string c.pa,J c.sh,J c.nd,J c.lm,J c.jb,J c.tk]
def gH (w:ay) (c:Cd):∃W,(w.alloc (.cells #[J c.kind,.string c.nm,.string c.pa,J c.sh,J c.nd,J c.lm,J c.jb,J c.tk] 45)).alloc (.cells #[J 0,J 0,.slice none 0 0,J 0,J 0,J 0,J 0,J 0,J 0,J 0,.slice none 0 0,.slice none 0 0,J 0,O 0,O 0,J 0,J 0,J 0,J 0,J 0,J 0,J 0,J 0,J 0,J 0,J 0,J 0] 42)=W/\Z w W/\W.heap[w.heap.size]?=some (.cells (fM c) 45 (0,0))/\dB W (w.heap.size+1)/\w.heap.size+2<=W.heap.size:=by
 have this:=aK (w.alloc (.cells #[J c.kind,.string c.nm,.string c.pa,J c.sh,J c.nd,J c.lm,J c.jb,J c.tk] 45)) (.cells #[J 0,J 0,.slice none 0 0,J 0,J 0,J 0,J 0,J 0,J 0,J 0,.slice none 0 0,.slice none 0 0,J 0,O 0,O 0,J 0,J 0,J 0,J 0,J 0,J 0,J 0,J 0,J 0,J 0,J 0,J 0] 42);rw[iI]at this;exact⟨_,rfl,dY.alloc dF _,(iM _ _ _ dF).trans (aK w _),⟨_,this,rfl⟩,by simp⟩
structure Pe where
 v:Hg
 sa:Option Addr
 sc:Nat
def peL (p:Pe):List Value:= [J p.v.kd,J p.v.jb,J p.v.at_,J p.v.nd,J p.v.lm,.slice p.sa p.v.ls.length p.sc]
structure DF (lab:Nat->Nat) (B:Nat) (W:ay) (sa:Option Addr) (sc:Nat) (l:List Int):Prop where
 at_:Rw.fD W sa l
 nil:sa=none->l= []/\sc=0
 cap:l.length<=sc
 own:∀g o k,sa=some ⟨g,o,k⟩->lab g=9/\B<=g/\g<W.heap.size/\k=none
theorem jV (lab:Nat->Nat) (B:Nat) (W:ay):DF lab B W none 0 []:=⟨⟨0,0,fun h=>absurd h dF,fun k n h=>(by grind)⟩,fun _=>⟨rfl,rfl⟩,aC _,fun g o k h=>(by grind)⟩
def Ru (lab:Nat->Nat) (B:Nat) (W:ay) (v:Value) (es:List Hg):Prop:=∃(ao:Option Addr) (cap:Nat) (ps:List Pe),v=.slice ao ps.length cap/\ps.map Pe.v=es/\(ao=none->ps= []/\cap=0)/\ps.length<=cap/\(∀g o k,ao=some ⟨g,o,k⟩->lab g=9/\B<=g/\g<W.heap.size/\k=none/\∀n p,ps[n]?=some p->∀i u,(peL p)[i]?=some u->W.cell? ⟨g,o+n*6+i,none⟩=some u)/\∀p∈ps,DF lab B W p.sa p.sc p.v.ls
def vo (lab:Nat->Nat) (B:Nat) (W:ay):Ru lab B W aV []:=⟨none,0,[],rfl,rfl,fun _=>⟨rfl,rfl⟩,aC _,fun g o k h=>(by grind),fun p hp=>(by grind)⟩
def Rv {B:Nat} {e:Hg} (hg:W.heap[g]?=some (.cells (yX e aV) 65 (0,0))) (h9:lab g=9) (hB:B<=g) (he:e.ls= []):Ru lab B W (.slice (some ⟨g,0,none⟩) 1 1) [e]:=by
 refine⟨_,1,[⟨e,none,0⟩],rfl,rfl,fun h=>(by grind),aC _,fun g' o k h=>?_,fun p hp=>?_⟩
 ·grind[peL,yX,aV,aj]
 grind[jV]
def avH (lab:Nat->Nat) (B:Nat) (W:ay) (v:Value) (rs:List Pr):Prop:=∃(ao:Option Addr) (cap:Nat),v=.slice ao rs.length cap/\(ao=none->rs= []/\cap=0)/\rs.length<=cap/\∀g o k,ao=some ⟨g,o,k⟩->lab g=9/\B<=g/\g<W.heap.size/\k=none/\∀n r,rs[n]?=some r->W.cell? ⟨g,o+n*2,none⟩=some (J r.a)/\W.cell? ⟨g,o+n*2+1,none⟩=some (J r.b)
def sI (lab:Nat->Nat) (B:Nat) (W:ay):avH lab B W aV []:=⟨none,0,rfl,fun _=>⟨rfl,rfl⟩,aC _,fun g o k h=>(by grind)⟩
def VJ (lab:Nat->Nat) (B:Nat) (W:ay) (v:Value) (a:FV):Prop:=∃ev js rk sa sc,v=.agg (d9 a ev js rk)/\Ru lab B W ev a.evs/\js=.slice sa a.job.set.length sc/\DF lab B W sa sc a.job.set/\avH lab B W rk a.WK
def iw (lab:Nat->Nat) (B:Nat) (W:ay) (e:Int):VJ lab B W (.agg (d9 (coded e) aV aV aV)) (coded e):=⟨_,_,_,none,0,rfl,vo lab B W,rfl,jV lab B W,sI lab B W⟩
def qU (lab:Nat->Nat) (w:ay) (x:Nat) (r:Sv×FV) (e:Ending) (w':ay):Prop:=∃lab' v,e=.returned v/\Cr lab' w' x r.1/\Mv lab lab' w w'/\VJ lab' w.heap.size w' v r.2
def n_ (w:ay) (q:Nat):Z w (w.drewN q):=⟨rfl,rfl,rfl,aC _,fun _ _=>rfl⟩
def dM {b:Nat} (h:dB W b):∃old,Hid (W.heap[b]?=some (.cells old 42 (0,0)))/\old.size=27:=by
 obtain⟨old,h1,h2⟩:=h;exact⟨old,h1,h2⟩
def jq.aiF {m:Nat} {js:List Jv} (h:jq W m js) {n:Nat} {j:Jv} {f:Jv->Jv} (hj:js[n]?=some j) (hp:j.st≠1) (h1:(f j).st≠1):jq W m (bX js n f):=by
 grind[WtD.same,jq]
def iH.rew {x:Nat} {c:Cf} {now hd:Int} {la:List Ac} {jw jw':List Jv} {L:List A3.Ag.En} {F:Nat} {P:EM} (h:iH lab W x c now hd la jw L F P) (hw:jq W P.wm jw'):iH lab W x c now hd la jw' L F P:=⟨h.blk,h.lx,h.tree,h.led,h.row,h.sets,hw,h.lw,h.due,h.free,h.lb,h.gl,h.vt,h.rt,h.top⟩
def Mv.Y4 {lab lab':Nat->Nat} {w w':ay} (h:Mv lab lab' w w') {b:Nat} (hb:dB w b) (h9:lab b=9):dB w' b:=dB.fF hb h.fF (by unfold Own;omega)
def LZ {lab xw:Nat->Nat} {w V w3 w4:ay} {e:Hg} (O8:w.heap.size+1<V.heap.size) (M3:Mv lab xw V w3) (htop:∀k,w3.heap.size<=k->xw k=9) (hg:w3.heap.size<=g) (hgb:w4.heap[g]?=some (.cells (yX e aV) 65 (0,0))) (he:e.ls= []) (cs:Array Value):VJ xw w.heap.size (w4.setRow (w.heap.size+1) cs) (.agg (d9 (told [e]) (.slice (some ⟨g,0,none⟩) 1 1) aV aV)) (told [e]):=by
 have hs:=M3.fF.size;exact⟨_,_,_,none,0,rfl,Rv ((gX _ _ _ _ ak).trans hgb) (htop g hg) ak he,rfl,jV _ _ _,sI _ _ _⟩
def Y5 {w:ay} {x:Nat} {s:Sv} (h:Cr lab w x s) (v:Kept s) (c:Cd):Calls prog 56 #[.pointer (some ⟨x,0,none⟩),.agg (fM c)] w (qU lab w x (jU s c)):=by
 obtain⟨P,L,F,h,hjs,hL,hF⟩:=h;have⟨W,hW,bW,hC,hA,hz⟩:=gH w c;have l9:=h.top _ (aC _);have qW:lab (w.heap.size+1)=9:=h.top _ ak;have iX:5<=w.heap.size+1:=by have:=h.Gv;omega
 have h0:=h.below bW;have M0:Mv lab lab w W:=Mv.of_below bW;have hlen:P.ps.length=s.js.length:=by rw[← hjs,dL]
 have kI:=v.ok.many;have cj:W.cell? ⟨w.heap.size,6,none⟩=some (J c.jb):=aj hC rfl;have hhas:=DC h0 ak c.jb;have JA:W.cell? ⟨x,11,none⟩=some (.slice P.jo P.ps.length P.cap):=h0.cell rfl;have H0:Hid _:=h0;have yJ:Hid _:=M0;have HA:Hid (dB W (w.heap.size+1)):=hA;have oz:w.heap.size+1<W.heap.size:=ak;clear h h0 M0 bW hC hA;unfold fM
 cases hj:oG s c.jb with
 | none=>
  have hb:(decide (0<=c.jb)&&decide (c.jb<=(P.ps.length:Int) - 1))=false:=by exact aeZ
  rw[hb]at hhas;have hS:jU s c=(s,coded 182):=by unfold jU;rw[hj]
  rw[hS];go_enter func56,ntmps56;go_wp2_with (first
   | (go_at_call 102;refine hhas.mono ?_;rintro e w1 ⟨rfl,rfl⟩)
   | (go_at_call 30;refine(iq _ _).mono ?_;rintro e w2 ⟨rfl,b2⟩;have⟨iJ,jW,hsA⟩:=dM (dB.below HA.out b2))
   | (refine eF rfl 42 (.tmp 4) (.tmp 10) rfl (w.heap.size+1) (d9 (coded 182) aV aV aV) gM gM 42 iJ jW.out Tryz.lJ hsA Fh ?_))
  refine eD results56 rfl rfl jW.out rfl ⟨lab,_,rfl,⟨P,L,F,(H0.out.below b2).ret qW iX _,hjs,hL,hF⟩,(yJ.out.below b2).ret ak _,iw lab _ _ _⟩
 | some j=>
  have⟨hc0,hjn⟩:=LG hj;obtain⟨n,hn⟩:∃n:Nat,c.jb=n:=⟨c.jb.toNat,by omega⟩;rw[hn,gJ]at hjn;have hnl:=(bO.1 hjn).1;obtain⟨p,hp,rfl⟩:∃p,P.ps[n]?=some p/\p.v=j:=by exact ae1
  have hb:(decide (0<=c.jb)&&decide (c.jb<=(P.ps.length:Int) - 1))=true:=fE;rw[hb]at hhas;have⟨g,hjo,hg,hgl,hcl,hfz⟩:=H0.out.row.at hp;have c4:=hcl 4 _ rfl;rw[hjo]at JA;have hl':(n:Int)<P.ps.length:=ak;clear hcl hfz hb hc0;rw[hn]at hhas cj hW ⊢;go_enter func56,ntmps56;go_upto_region 3 with(go_at_call 102;refine hhas.mono ?_;rintro e w1 ⟨rfl,rfl⟩)
  go_quiet (fail)
  have bV:=n_ w1 nq;have hV:=H0.out.below bV;have MV:=yJ.out.below bV;have AV:=dB.below HA.out bV;have O8:w.heap.size+1<(w1.drewN nq).heap.size:=oz;have cjV:(w1.drewN nq).cell? ⟨w.heap.size,6,none⟩=some (J n):=cj;generalize w1.drewN nq=V at hV MV AV O8 cjV ⊢;clear H0 yJ HA hhas JA c4 cj bV hW hgl hg hl';have hn6:n<=1000000:=ak;by_cases h1:p.v.st=1
  ·have hS:jU s c=EK s n:=by unfold jU;rw[hj];simp only;rw[aJ h1,hn,gJ]
   have hdrop:=aiE hV hp hn6 hjn h1;rw[h1];have AV':Hid (dB V (w.heap.size+1)):=AV;have QZ:Hid _:=MV;clear hV AV MV;go_wp2_with (first
    | (go_at_call 104;refine hdrop.mono ?_;rintro e w3 ⟨rfl,xw,h3,M3⟩;have H3:Hid _:=h3;have yK:Hid _:=M3;clear h3 M3)
    | (go_at_call 103;refine(LH _ _).mono ?_;rintro e w4 ⟨g4,rfl,hg4,hb4,b4⟩;have⟨iJ,jW,hsA⟩:=dM (dB.below (yK.out.Y4 AV'.out qW) b4);have Bw:Hid _:=hb4;clear hb4)
    | (refine eF rfl 42 (.tmp 4) (.tmp 26) rfl (w.heap.size+1) (d9 (told [gV n 6 s.now]) (.slice (some ⟨g4,0,none⟩) 1 1) aV aV) gM gM 42 iJ jW.out Tryz.lJ hsA Fh ?_))
   have l93:=(yK.out.old _ O8).trans qW;rw[hS];refine eD results56 rfl rfl jW.out rfl ⟨xw,_,rfl,⟨_,L,F,(H3.out.below b4).ret l93 iX _,?_,ah1 (f:=fQ 6 s.now) hL hjn ak (by show (6:Int)≠2;decide),adi (f:=fQ 6 s.now) hF hjn ak (by show (6:Int)≠2;decide)⟩,((QZ.out.trans yK.out).below b4).ret ak _,LZ O8 yK.out H3.out.top hg4 Bw.out rfl _⟩;show (P.ps.set n (endP 6 s.now p)).map Pj.v=bX s.js n (fQ 6 s.now);rw[← hjs];exact LJ hp _ rfl
  ·by_cases h2:p.v.st=2
   ·have hS:jU s c=EI s n 5:=by unfold jU;rw[hj];simp only;rw[au h1,aJ h2,hn,gJ]
    have hstop:=LP hV hp hn6 5;rw[h2];have AV':Hid (dB V (w.heap.size+1)):=AV;have QZ:Hid _:=MV;clear hV AV MV;go_wp2_with (first
     | (go_at_call 105;refine hstop.mono ?_;rintro e w3 ⟨rfl,xw,h3,M3⟩;have H3:Hid _:=h3;have yK:Hid _:=M3;clear h3 M3)
     | (go_at_call 103;refine(LH _ _).mono ?_;rintro e w4 ⟨g4,rfl,hg4,hb4,b4⟩;have⟨iJ,jW,hsA⟩:=dM (dB.below (yK.out.Y4 AV'.out qW) b4);have Bw:Hid _:=hb4;clear hb4)
     | (refine eF rfl 42 (.tmp 4) (.tmp 33) rfl (w.heap.size+1) (d9 (told [gV n 5 s.now]) (.slice (some ⟨g4,0,none⟩) 1 1) aV aV) gM gM 42 iJ jW.out Tryz.lJ hsA Fh ?_))
    have l93:=(yK.out.old _ O8).trans qW;rw[hS];refine eD results56 rfl rfl jW.out rfl ⟨xw,_,rfl,⟨_,_,_,((H3.out.below b4).ret l93 iX _).rew (jq.aiF (f:=fQ 5 s.now) ((H3.out.below b4).ret l93 iX _).wait hjn h1 (by show (5:Int)≠1;decide)),?_,aaO (f:=fQ 5 s.now) hL hjn (by show (5:Int)≠2;decide),Vs (f:=fQ 5 s.now) v hF hjn h2 (by show (5:Int)≠2;decide)⟩,((QZ.out.trans yK.out).below b4).ret ak _,LZ O8 yK.out H3.out.top hg4 Bw.out rfl _⟩;show (P.ps.set n (endP 5 s.now p)).map Pj.v=bX s.js n (fQ 5 s.now);rw[← hjs];exact LJ hp _ rfl
   ·have hS:jU s c=(s,coded 183):=by unfold jU;rw[hj];simp only;rw[au h1,au h2]
    have d1:=dH h1;have d2:=dH h2;have q1:(p.v.st==1)=false:=(by simpa using h1);have q2:(p.v.st==2)=false:=(by simpa using h2);have AV':Hid (dB V (w.heap.size+1)):=AV;have QZ:Hid _:=MV;have HV:Hid _:=hV;clear hV AV MV h1 h2;go_wp2_with (first
     | (go_at_call 30;refine(iq _ _).mono ?_;rintro e w2 ⟨rfl,b2⟩;have⟨iJ,jW,hsA⟩:=dM (dB.below AV'.out b2))
     | (refine eF rfl 42 (.tmp 4) (.tmp 34) rfl (w.heap.size+1) (d9 (coded 183) aV aV aV) gM gM 42 iJ jW.out Tryz.lJ hsA Fh ?_))
    rw[hS];exact eD results56 rfl rfl jW.out rfl ⟨lab,_,rfl,⟨P,L,F,(HV.out.below b2).ret qW iX _,hjs,hL,hF⟩,(QZ.out.below b2).ret ak _,iw lab _ _ _⟩
def jD {P:Program} {w:ay} {ops:Array Oper} {rest:List Oper} {o:Oper} {a:Act} {Q:Exit->Act->World->Prop} (hgd:o.guard=none) (s x:Operand) (t:TypeId)
  (ho:o.op=.call {callee:=.builtin .append,args:= #[s,x],argTypes:= #[t,t]})
  (base:Nat) (e:TypeId) (i:TypeInfo) (z:Value) (size bytes:Nat) (ht:P.underlying t=some (.slice e)) (hi:P.info? e=some i) (hz:i.zero=some z)
  (hsize:i.size=size) (hby:i.bytes=bytes) (hzs:z.cells.size=size) (hsz:0<size)
  (v:Value) (n:Nat) (xs:List Value) (hs:a.eval s=v) (hown:w.ownsRow base e size v n xs)
  (ao:Option Addr) (m c:Nat) (news:List Value) (hx:a.eval x=.slice ao m c) (hnil:ao=none->m=0/\c=0) (hl:news.length=m*size) (hnews:∀ad,ao=some ad->∀j u,news[j]?=some u->w.cell? (ad.add j)=some u) (h1:∀u∈news,u.oneCell'=true)
  (h63:n+m<=maxLen) (hbytes:(n+m)*bytes<=140737488355328) (hbase:base<=w.heap.size)
  (h:∀v' w',w'.ownsRow base e size v' (n+m) (xs++news)->w.grownBy w' v.ownBlock->(v'.ownBlock=v.ownBlock\/v'.ownBlock=some w.heap.size)->wpList P ops Q rest (a.put o.dst v') w'):
  wpList P ops Q (o::rest) a w:=by
 cases ao with
 | none=>obtain⟨rfl,rfl⟩:=hnil rfl;have hn0:=DV.1 (by rw[hl];omega);subst hn0;exact wpList_append_own_none hgd s x t ho base e i size ht hi v n xs hs hown hx (h v w (by grind) ⟨rfl,rfl,rfl,aC _,fun _ _ _=>rfl⟩ (.inl rfl))
 | some ad=>grind[JI]
def Tryz.aiG:(prog.info? 65).map (fun i=>(i.zero,i.size,i.bytes))=some (some (.agg #[J 0,J 0,J 0,J 0,J 0,.slice none 0 0]),6,64):=aF
def og {lab lab':Nat->Nat} {B:Nat} {W W':ay} {sa:Option Addr} {sc:Nat} {l:List Int} (h:DF lab B W sa sc l) (hz:W.heap.size<=W'.heap.size) (hl:∀g,g<W.heap.size->lab g=9->lab' g=9) (hb:∀g o k,sa=some ⟨g,o,k⟩->W'.heap[g]?=W.heap[g]?):DF lab' B W' sa sc l:=by
 refine⟨?_,h.nil,h.cap,fun g o k e=>?_⟩
 ·have⟨g,o,h1,h2⟩:=h.at_;grind[fI,Rw.fD]
 ·have⟨h1,h2,h3,h4⟩:=h.own g o k e;grind
def iE (ps:List Pe):List Value:=ps.flatMap peL
theorem adF (a b:List Pe):iE (a++b)=iE a++iE b:=by simp[iE]
def sU:∀ps:List Pe,(iE ps).length=ps.length*6
 | []=>rfl
 | p::ps=>by have:=sU ps;unfold iE at this ⊢;rw[List.flatMap_cons,tC,this];simp[peL];omega
def L8:∀ {ps:List Pe} {n i:Nat} {p:Pe},ps[n]?=some p->i<6->(iE ps)[n*6+i]?=(peL p)[i]?
 | [],n,i,p,h,_=>by grind
 | q::ps,0,i,p,h,hi=>by
  grind[iE,peL]
 | q::ps,n+1,i,p,h,hi=>by
  have ih:=L8 (ps:=ps) (n:=n) (i:=i) (p:=p) (by grind) hi
  unfold iE at ih ⊢
  grind[peL]
def qD (ps:List Pe):∀u∈iE ps,u.oneCell'=true:=fun u hu=>by
 unfold iE at hu;obtain⟨p,_,hp⟩:=List.mem_flatMap.1 hu;simp[peL]at hp;rcases hp with rfl | rfl | rfl | rfl | rfl | rfl<;>rfl
structure yu (lab:Nat->Nat) (B:Nat) (W:ay) (v:Value) (ps:List Pe):Prop where
 row:W.ownsRow B 65 6 v ps.length (iE ps)
 l9:∀g,v.ownBlock=some g->lab g=9
 mI:∀p∈ps,DF lab B W p.sa p.sc p.v.ls
 off:∀p∈ps,∀g o k,p.sa=some ⟨g,o,k⟩->v.ownBlock≠some g
def Ry (lab:Nat->Nat) (B:Nat) (W:ay):yu lab B W (.slice none 0 0) []:=⟨l8 _ _ _ _,fun g h=>(by grind[Value.ownBlock]),fun p h=>(by grind),fun p h=>(by grind)⟩
section
variable {lab lab':Nat->Nat} {B:Nat} {W W':ay} {v v':Value} {ps:List Pe}
theorem yu.lt (h:yu lab B W v ps) (hg:v.ownBlock=some g):B<=g/\g<W.heap.size:=h.row.lt g hg
theorem yu.kept (h:yu lab B W v ps) (hz:W.heap.size<=W'.heap.size) (hl:∀g,g<W.heap.size->lab g=9->lab' g=9) (hb:∀g,g<W.heap.size->lab g=9->B<=g->W'.heap[g]?=W.heap[g]?):yu lab' B W' v ps:=
 ⟨row_of h.row (fun g hg=>hb g (h.lt hg).2 (h.l9 g hg) (h.lt hg).1),fun g hg=>hl g (h.lt hg).2 (h.l9 g hg),fun p hp=>og (h.mI p hp) hz hl (fun g o k e=>by obtain⟨h1,h2,h3,_⟩:=(h.mI p hp).own g o k e;grind),h.off⟩
def yu.mv (h:yu lab B W v ps) (M:Mv lab lab' W W'):yu lab' B W' v ps:=h.kept M.fF.size (fun g hg h9=>(M.old g hg).trans h9) (fun g hg h9 _=>M.fF.block g hg (by unfold Own;omega))
theorem yu.below (h:yu lab B W v ps) (b:Z W W'):yu lab B W' v ps:=h.kept b.size (fun _ _ h=>h) (fun g hg _ _=>b.block g hg)
theorem yu.out (h:yu lab B W v ps):Ru lab B W v (ps.map Pe.v):=by
 rcases h.row.2 with⟨e,h0⟩ | ⟨g,cap,cur,e,hb,hg,h1,h2,h3,h4⟩
 ·grind[Ru]
 ·subst e;refine⟨_,cap,ps,rfl,rfl,fun h=>(by grind),h1,fun g' o k e=>?_,h.mI⟩
  cases e;refine⟨h.l9 g rfl,hb,(aS.1 hg).1,rfl,fun n p hp i u hu=>?_⟩;have hi:i<6:=by grind[peL]
  have e0:=(L8 hp hi).trans hu;grind[aj]
def yu.app {qs:List Pe} {B':Nat} (h:yu lab B W v ps) (hB:B<=B') (hv:∀g,v.ownBlock=some g->g<B') (hq:∀p∈qs,DF lab B' W p.sa p.sc p.v.ls) (htop:lab W.heap.size=9) (hrow:W'.ownsRow B 65 6 v' (ps.length+qs.length) (iE ps++iE qs)) (hg:W.grownBy W' v.ownBlock) (hat:v'.ownBlock=v.ownBlock\/v'.ownBlock=some W.heap.size):yu lab B W' v' (ps++qs):=by
 have hboth:∀p∈ps++qs,DF lab B W p.sa p.sc p.v.ls/\∀g o k,p.sa=some ⟨g,o,k⟩->v.ownBlock≠some g/\g<W.heap.size:=fun p hp=>by
  rcases pX.1 hp with hp | hp
  ·exact ⟨h.mI p hp,fun g o k e=>⟨h.off p hp g o k e,((h.mI p hp).own g o k e).2.2.1⟩⟩
  ·refine ⟨⟨(hq p hp).at_,(hq p hp).nil,(hq p hp).cap,fun g o k e=>?_⟩,fun g o k e=>?_⟩
   ·have⟨h1,h2,h3,h4⟩:=(hq p hp).own g o k e;grind
   ·have⟨h1,h2,h3,h4⟩:=(hq p hp).own g o k e;grind
 refine⟨by grind[adF],fun g hg'=>?_,fun p hp=>?_,fun p hp g o k e he=>?_⟩
 ·grind[l9]
 ·have⟨h1,h2⟩:=hboth p hp;exact og h1 hg.size (fun _ _ h=>h) (fun g o k e=>hg.block g (h2 g o k e).2 (fun e'=>(h2 g o k e).1 e'.symm))
 grind
end
def amI {B:Nat} {e:Hg} (hg:W.heap[g]?=some (.cells (yX e aV) 65 (0,0))) (h9:lab g=9) (hB:B<=g) (he:e.ls= []):yu lab B W (.slice (some ⟨g,0,none⟩) 1 1) [⟨e,none,0⟩]:=by
 refine⟨⟨by simp[iE,peL],.inr ⟨g,1,_,rfl,hB,hg,aC _,by decide,by simp[yX],?_⟩⟩,fun g' h=>?_,fun p hp=>?_,fun p hp g' o k e=>?_⟩
 ·simp[iE,peL,yX,aV,he]
 ·grind[Value.ownBlock]
 ·grind[jV]
 grind
def aiH {ao:Option Addr} {ps:List Pe} (h:∀g o k,ao=some ⟨g,o,k⟩->k=none/\∀n p,ps[n]?=some p->∀i u,(peL p)[i]?=some u->W.cell? ⟨g,o+n*6+i,none⟩=some u):∀ad,ao=some ad->∀j u,(iE ps)[j]?=some u->W.cell? (ad.add j)=some u:=by
 rintro ⟨g,o,k⟩ e j u hu;obtain⟨rfl,h1⟩:=h g o k e;have hj:=(bO.1 hu).1;rw[sU]at hj;have hn:j / 6<ps.length:=ak;have hp:=aY hn;have hd:j / 6*6+j % 6=j:=ak;have e1:=L8 hp (show j % 6<6 by omega);grind[Addr.add]
end
end Go.Proofs.YtdhifkbbjlhcaaaGreatDoor
