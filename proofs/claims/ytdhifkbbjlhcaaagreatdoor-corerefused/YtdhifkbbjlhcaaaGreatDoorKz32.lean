import Derived.Test.YtdhifkbbjlhcaaaGreatDoorKz15
import Derived.Test.YtdhifkbbjlhcaaaGreatDoorKz31
import Derived.Test.YtdhifkbbjlhcaaaGreatDoorKz23
import Derived.Test.YtdhifkbbjlhcaaaGreatDoorKz24
import Derived.Test.YtdhifkbbjlhcaaaGreatDoorKz25
import Derived.Test.YtdhifkbbjlhcaaaGreatDoorKz28
import Derived.Deep.WholeRow
set_option maxRecDepth 20000
set_option maxHeartbeats 2000000
set_option linter.defProp false
namespace Go.Proofs.YtdhifkbbjlhcaaaGreatDoor
open Go.Proofs.Tryz
variable {F i n x:Nat} {K S S':Nat->Prop} {L:List A3.Ag.En} {R:Ending->World->Prop} {W W' w w':ay} {c:Cg.Cf} {cs:Array Value} {f:Jv->Jv} {j:Jv} {js:List Jv} {lab:Nat->Nat} {now:Int}
section
open Go.RowKit Wd Tr Cg Ld
def YP (h:aH K w w'):aH K w w':=⟨h.os,h.tape,h.output,h.size,h.block⟩
def YQ (h:aH K w w'):aH K w w':=⟨h.os,h.tape,h.output,h.size,h.block⟩
def Gt {b:Nat} (h:w.grownBy w' (some b)):aH (fun k=>k=b) w w':=⟨h.os,h.tape,h.output,h.size,fun i hi hne=>h.block i hi (fun e=>hne (ji e))⟩
def yT (S:Nat->Prop) (W:ay) (d:Nat) (c:Cf) (us:List Int):Prop:=∃v,Lr.zi c.nodes (Ev c) 0 W d v us/\∀k,Lr.LK d v k->S k
theorem yT.kept {d:Nat} {us:List Int} (h:yT S W d c us) (b:∀j,j<W.heap.size->S j->W'.heap[j]?=W.heap[j]?):yT S W' d c us:=by
 obtain⟨v,h1,h2⟩:=h;refine⟨v,⟨(b d (h1.Ce d (.inl rfl)) (h2 d (.inl rfl))).trans h1.blk,row_of h1.row (fun j hj=>b j (h1.Ce j (.inr hj)) (h2 j (.inr hj))),h1.lo,h1.wds,h1.few⟩,h2⟩
theorem yT.mono {d:Nat} {us:List Int} (h:yT S W d c us) (b:∀j,j<W.heap.size->S j->S' j):yT S' W d c us:=by
 grind[Lr.Hz.Ce,yT]
structure Pj where
 v:Jv
 sa:Option Addr
 sc:Nat
def Dw (p:Pj):List Value:= [J p.v.ac,J p.v.nd,J p.v.lm,J p.v.sb,J p.v.st,J p.v.sr,J p.v.en,.slice p.sa p.v.set.length p.sc]
def nZ (ps:List Pj):List Value:=ps.flatMap Dw
def uq (S:Nat->Prop) (W:ay) (jo:Option Addr) (cap:Nat) (ps:List Pj):Prop:=W.ownsRow 0 38 8 (.slice jo ps.length cap) ps.length (nZ ps)/\∀g,(Value.slice jo ps.length cap).ownBlock=some g->S g
theorem uq.kept {jo:Option Addr} {cap:Nat} {ps:List Pj} (h:uq S W jo cap ps) (b:∀j,j<W.heap.size->S j->W'.heap[j]?=W.heap[j]?):uq S W' jo cap ps:=⟨row_of h.1 (fun j hj=>b j (h.1.lt j hj).2 (h.2 j hj)),h.2⟩
theorem uq.mono {jo:Option Addr} {cap:Nat} {ps:List Pj} (h:uq S W jo cap ps) (b:∀j,j<W.heap.size->S j->S' j):uq S' W jo cap ps:=⟨h.1,fun j hj=>b j (h.1.lt j hj).2 (h.2 j hj)⟩
structure xg (S:Nat->Prop) (W:ay) (p:Pj):Prop where
 at_:Rw.fD W p.sa p.v.set
 nil:p.sa=none->p.v.set= []/\p.sc=0
 cap:p.v.set.length<=p.sc
 few:p.v.set.length<=256
 own:∀g o k,p.sa=some ⟨g,o,k⟩->S g/\g<W.heap.size/\k=none
theorem xg.kept {p:Pj} (h:xg S W p) (hz:W.heap.size<=W'.heap.size) (b:∀j,j<W.heap.size->S j->W'.heap[j]?=W.heap[j]?):xg S W' p:=by
 refine⟨?_,h.nil,h.cap,h.few,fun g o k e=>⟨(h.own g o k e).1,by have:=(h.own g o k e).2.1;omega,(h.own g o k e).2.2⟩⟩
 have⟨g,o,h1,h2⟩:=h.at_;grind[own,World.cell?,Rw.fD]
theorem xg.mono {p:Pj} (h:xg S W p) (b:∀j,j<W.heap.size->S j->S' j):xg S' W p:=⟨h.at_,h.nil,h.cap,h.few,fun g o k e=>⟨b g (h.own g o k e).2.1 (h.own g o k e).1,(h.own g o k e).2⟩⟩
def kY (js:List Jv) (L:List A3.Ag.En):Prop:=A3.Ag.Gh L/\∀e,e∈L↔∃(n:Nat) (j:Jv),js[n]?=some j/\j.st=2/\e=⟨(n:Int),j.sr+j.lm⟩
def AgX (S:Nat->Prop) (W:ay) (a:Nat) (L:List A3.Ag.En):Prop:=∃m ao,A3.r_ 198 239 W a m ao L/\∀k,A3.xE a m ao k->S k
theorem AgX.kept {a:Nat} (h:AgX S W a L) (c:aH K W W') (hK:∀j,S j->¬K j):AgX S W' a L:=by
 obtain⟨m,ao,h1,h2⟩:=h;exact⟨m,ao,h1.kept (K:=K) ⟨c.os,c.tape,c.output,c.size,c.block⟩ (fun k hk=>hK k (h2 k hk)),h2⟩
theorem AgX.mono {a:Nat} (h:AgX S W a L) (b:∀j,j<W.heap.size->S j->S' j):AgX S' W a L:=by
 grind[A3.r_.lt,AgX]
def kH (c:Cf) (js:List Jv) (F:Nat):Prop:=∀k:Nat,F.testBit k=(decide ((k:Int)<c.nodes)&& !lM js (k:Int))
def coreC (c:Cf) (now:Int) (t d:Nat) (jo:Option Addr) (n cap:Nat) (hd:Int) (wm a b:Nat):Array Value:= #[J c.nodes,J c.queue,J c.limit,J c.age,J c.fair,J c.size,J c.period,J c.half,J now,.pointer (some ⟨t,0,none⟩),.pointer (some ⟨d,0,none⟩),.slice jo n cap,J hd,.map (some wm),.pointer (some ⟨a,0,none⟩),.pointer (some ⟨b,0,none⟩)]
structure EM where
 t:Nat
 d:Nat
 jo:Option Addr
 cap:Nat
 ps:List Pj
 wm:Nat
 a:Nat
 b:Nat
abbrev cC (s:Sv) (P:EM):Array Value:=coreC s.cf s.now P.t P.d P.jo P.ps.length P.cap s.hd P.wm P.a P.b
abbrev cD (c:Cf) (now hd:Int) (P:EM):Array Value:=coreC c now P.t P.d P.jo P.ps.length P.cap hd P.wm P.a P.b
structure iH (lab:Nat->Nat) (W:ay) (x:Nat) (c:Cf) (now hd:Int) (la:List Ac) (jw:List Jv) (L:List A3.Ag.En) (F:Nat) (P:EM):Prop where
 blk:W.heap[x]?=some (.cells (coreC c now P.t P.d P.jo P.ps.length P.cap hd P.wm P.a P.b) 100 (0,0))
 lx:lab x=0
 tree:Tree (fun k=>lab k=1) W P.t (la.map aB) (gP (la.map aB))
 led:yT (fun k=>lab k=2) W P.d c (nX la)
 row:uq (fun k=>lab k=3) W P.jo P.cap P.ps
 sets:∀p∈P.ps,xg (fun k=>lab k=7) W p
 wait:jq W P.wm jw
 lw:lab P.wm=4
 due:AgX (fun k=>lab k=5) W P.a L
 free:N2.fH W P.b c.nodes.toNat F
 lb:lab P.b=6
 gl:∀k,k<5->lab k=9
 vt:V8.Tab W
 rt:Tab W
 top:∀k,W.heap.size<=k->lab k=9
def Cr (lab:Nat->Nat) (W:ay) (x:Nat) (s:Sv):Prop:=∃P L F,iH lab W x s.cf s.now s.hd s.la s.js L F P/\P.ps.map Pj.v=s.js/\kY s.js L/\kH s.cf s.js F
def Own (lab:Nat->Nat) (k:Nat):Prop:=lab k<=6
theorem fI {g o:Nat} {v:Value} (h:w.cell? ⟨g,o,none⟩=some v) (e:w'.heap[g]?=w.heap[g]?):w'.cell? ⟨g,o,none⟩=some v:=by
 grind[World.cell?]
def sF (h:V8.Tab w) (e:w'.heap[0]?=w.heap[0]?):V8.Tab w':=⟨fun k hk=>fI (h.word k hk) e,fun k i hk hi=>fI (h.fld k i hk hi) e⟩
def sG (h:Tab w) (e:w'.heap[1]?=w.heap[1]?):Tab w':=fun j hj=>fI (h j hj) e
def Jz (h:N2.Tab w) (e:w'.heap[4]?=w.heap[4]?):N2.Tab w':=fun j hj=>fI (h j hj) e
def uw {b n F:Nat} (h1:N2.fH W b n F) (e:W'.heap[b]?=W.heap[b]?) (e4:W'.heap[4]?=W.heap[4]?):N2.fH W' b n F:=⟨Jz h1.tab e4,h1.nz,e.trans h1.blk,h1.lo,h1.hi,h1.top⟩
def Gu (h:N2.Tab w):4<w.heap.size:=aU w ⟨4,0,none⟩ (h 0 aT)
section
variable {lab:Nat->Nat} {W W':ay} {x:Nat} {c:Cf} {now hd:Int} {la:List Ac} {jw:List Jv} {L:List A3.Ag.En} {F:Nat} {P:EM}
theorem iH.xlt (h:iH lab W x c now hd la jw L F P):x<W.heap.size:=(aS.1 h.blk).1
theorem iH.Gv (h:iH lab W x c now hd la jw L F P):4<W.heap.size:=Gu h.free.tab
theorem iH.cell (h:iH lab W x c now hd la jw L F P) {k:Nat} {v:Value} (hv:(coreC c now P.t P.d P.jo P.ps.length P.cap hd P.wm P.a P.b)[k]?=some v):W.cell? ⟨x,k,none⟩=some v:=aj h.blk hv
theorem iH.fF (h:iH lab W x c now hd la jw L F P) (k:aH K W W') (hK:∀k,K k->lab k=9/\5<=k):iH lab W' x c now hd la jw L F P:=by
 have hb:∀j,j<W.heap.size->lab j≠9->W'.heap[j]?=W.heap[j]?:=by grind[aH.block]
 have hg:∀j,j<5->W'.heap[j]?=W.heap[j]?:=by grind[aH.block,Gv]
 have hs:=k.size;exact⟨(hb x h.xlt (by rw[h.lx];omega)).trans h.blk,h.lx,h.tree.kept (fun j hj hl=>hb j hj ak),h.led.kept (fun j hj hl=>hb j hj ak),h.row.kept (fun j hj hl=>hb j hj ak),fun p hp=>(h.sets p hp).kept hs (fun j hj hl=>hb j hj ak),h.wait.same (hb _ h.wait.lt (by rw[h.lw];omega)),h.lw,h.due.kept k (fun j hj hk=>by grind),uw h.free (hb _ h.free.lt (by rw[h.lb];omega)) (hg _ ak),h.lb,h.gl,sF h.vt (hg _ ak),sG h.rt (hg _ ak),fun k hk=>h.top k ak⟩
theorem iH.below (h:iH lab W x c now hd la jw L F P) (b:Z W W'):iH lab W' x c now hd la jw L F P:=h.fF (K:=fun _=>False) ⟨b.os,b.tape,b.output,b.size,fun i hi _=>b.block i hi⟩ (fun _ h=>h.elim)
def uF (lab:Nat->Nat) (i n n' k:Nat):Nat:=if k<n then lab k else if k<n' then i else 9
theorem fu {i n n' k:Nat} (h:k<n):uF lab i n n' k=lab k:=aJ h
def uy {i n n' j:Nat} (h:lab j=i\/n<=j) (hj:j<n'):uF lab i n n' j=i:=by
 grind[uF]
structure Lf (i:Nat) (lab':Nat->Nat) (W':ay) (x:Nat) (c:Cf) (now hd:Int) (la:List Ac) (jw:List Jv) (L:List A3.Ag.En) (F:Nat) (P:EM):Prop where
 blk:i≠0->W'.heap[x]?=some (.cells (coreC c now P.t P.d P.jo P.ps.length P.cap hd P.wm P.a P.b) 100 (0,0))
 lx:lab' x=0
 tree:i≠1->Tree (fun k=>lab' k=1) W' P.t (la.map aB) (gP (la.map aB))
 led:i≠2->yT (fun k=>lab' k=2) W' P.d c (nX la)
 row:i≠3->uq (fun k=>lab' k=3) W' P.jo P.cap P.ps
 sets:∀p∈P.ps,xg (fun k=>lab' k=7) W' p
 wait:i≠4->jq W' P.wm jw
 lw:lab' P.wm=4
 due:i≠5->AgX (fun k=>lab' k=5) W' P.a L
 free:i≠6->N2.fH W' P.b c.nodes.toNat F
 lb:lab' P.b=6
 gl:∀k,k<5->lab' k=9
 vt:V8.Tab W'
 rt:Tab W'
 top:∀k,W'.heap.size<=k->lab' k=9
def iH.lift (hi:i<=6) (h:iH lab W x c now hd la jw L F P) (k:aH (fun k=>lab k=i) W W'):Lf i (uF lab i W.heap.size W'.heap.size) W' x c now hd la jw L F P:=by
 have hs:=k.size;have hb:∀j,j<W.heap.size->lab j≠i->W'.heap[j]?=W.heap[j]?:=by grind[aH.block]
 have hg:∀j,j<5->W'.heap[j]?=W.heap[j]?:=by grind[Gv,gl]
 have hm:∀q,q≠9->∀j,j<W'.heap.size->lab j=q->uF lab i W.heap.size W'.heap.size j=q:=fun q hq j _ hl=>by
  rw[fu (by
   grind[top])]
  omega
 refine⟨fun h0=>(hb x h.xlt (by rw[h.lx];omega)).trans h.blk,by grind[xlt,lx],fun h1=>(h.tree.kept (fun j hj hl=>hb j hj ak)).mono (hm 1 ak),fun h1=>(h.led.kept (fun j hj hl=>hb j hj ak)).mono (hm 2 ak),fun h1=>(h.row.kept (fun j hj hl=>hb j hj ak)).mono (hm 3 ak),fun p hp=>((h.sets p hp).kept hs (fun j hj hl=>hb j hj ak)).mono (hm 7 ak),fun h1=>h.wait.same (hb _ h.wait.lt (by rw[h.lw];omega)),by rw[fu h.wait.lt];exact h.lw,fun h1=>(h.due.kept k (fun j hj hk=>by omega)).mono (hm 5 ak),fun h1=>uw h.free (hb _ h.free.lt (by rw[h.lb];omega)) (hg _ ak),by rw[fu h.free.lt];exact h.lb,fun j hj=>by grind[fu,Gv,gl],sF h.vt (hg _ ak),sG h.rt (hg _ ak),fun j hj=>?_⟩
 grind[uF]
end
structure Mv (lab lab':Nat->Nat) (w w':ay):Prop where
 old:∀k,k<w.heap.size->lab' k=lab k
 fF:aH (Own lab) w w'
theorem Mv.refl (lab:Nat->Nat) (w:ay):Mv lab lab w w:=⟨fun _ _=>rfl,aH.refl _ _⟩
theorem Mv.trans {lab BJ oh:Nat->Nat} {w w1 w2:ay} (h:Mv lab BJ w w1) (k:Mv BJ oh w1 w2):Mv lab oh w w2:=
 ⟨fun j hj=>(k.old j (gL hj h.fF.size)).trans (h.old j hj),h.fF.trans k.fF (fun j hj hk=>by grind[Own,old])⟩
theorem Mv.below {lab BJ:Nat->Nat} {w w1 w2:ay} (h:Mv lab BJ w w1) (b:Z w1 w2):Mv lab BJ w w2:=⟨h.old,h.fF.trans (K':=fun _=>False) ⟨b.os,b.tape,b.output,b.size,fun i hi _=>b.block i hi⟩ (fun _ _ h=>h.elim)⟩
theorem Mv.of_below {w w1:ay} (b:Z w w1):Mv lab lab w w1:=(Mv.refl lab w).below b
def Mv.lift (hi:i<=6) (k:aH (fun k=>lab k=i) w w'):Mv lab (uF lab i w.heap.size w'.heap.size) w w':=⟨fun _ hj=>fu hj,k.mono (fun _ _ h=>by unfold Own;omega)⟩
end
section
open Go.RowKit Wd Tr Cg Ld
theorem kP {n m:Nat} {j x:Jv} (hj:js[n]?=some j):(bX js n f)[m]?=some x↔(m=n/\x=f j)\/(m≠n/\js[m]?=some x):=by
 grind[rY,lT]
def aaO (h:kY js L) (hj:js[n]?=some j) (hf:(f j).st≠2):kY (bX js n f) (A3.Ag.BI n L):=by
 refine⟨PN _ h.1,fun e=>?_⟩;grind[A3.Ag.BI,kP,kY]
def ah1 (h:kY js L) (hj:js[n]?=some j) (h2:j.st≠2) (hf:(f j).st≠2):kY (bX js n f) L:=by
 grind[kP,kY]
def amm (h:kY js L) (hj:js[n]?=some j) (h2:j.st≠2):∀e∈L,e.id≠(n:Int):=fun e he hid=>by
 grind[kY]
def adh (h:kY js L) (hj:js[n]?=some j) (h2:j.st≠2) (hf:(f j).st=2):kY (bX js n f) (A3.Ag.I4 ⟨(n:Int),(f j).sr+(f j).lm⟩ L):=by
 grind[A3.Ag.U9,A3.Ag.Lh,kP,kY]
def amn (h:kY js L) (h2:j.st≠2):kY (js++ [j]) L:=by
 grind[kY]
theorem jM {k:Int}:lM js k=true↔∃(n:Nat) (j:Jv),js[n]?=some j/\j.st=2/\k∈j.set:=by
 grind[lM,kS,ko]
def adi (h:kH c js F) (hj:js[n]?=some j) (h2:j.st≠2) (hf:(f j).st≠2):kH c (bX js n f) F:=fun k=>by
 rw[h k];congr 2;rw[JQ,jM,jM];constructor
 ·rintro ⟨m,x,h1,h3,h4⟩;refine⟨m,x,(kP hj).2 (.inr ⟨fun e=>?_,h1⟩),h3,h4⟩;grind
 grind[kP]
def ah2 (h:kH c js F) (h2:j.st≠2):kH c (js++ [j]) F:=fun k=>by
 grind[lM,ko,kH]
def d9 (a:FV) (ev js rk:Value):Array Value:= #[J a.code,J a.id,ev,J a.job.ac,J a.job.nd,J a.job.lm,J a.job.sb,J a.job.st,J a.job.sr,J a.job.en,js,rk,J a.raw,O a.us,O a.fac,J a.free,J a.hold,J a.IU,J a.cf.nodes,J a.cf.queue,J a.cf.limit,J a.cf.age,J a.cf.fair,J a.cf.size,J a.cf.period,J a.cf.half,J a.bnd]
def aV:Value:=.slice none 0 0
def dB (W:ay) (b:Nat):Prop:=∃old,W.heap[b]?=some (.cells old 42 (0,0))/\old.size=27
theorem dB.fF {b:Nat} (h:dB W b) (c:aH K W W') (hK:¬K b):dB W' b:=by
 grind[aH.block,dB]
theorem dB.below {b:Nat} (h:dB W b) (c:Z W W'):dB W' b:=by
 grind[lI,dB]
theorem Tryz.lJ:(prog.info? 42).map (·.size)=some 27:=aF
def ah3 {b:Nat} (h:W.heap[b]?=some (.cells cs 42 (0,0))) (hs:cs.size=27):(loadVar 42 ⟨b,0,none⟩).run prog W=.ok (.agg cs) W:=by
 grind[Fy,underlying42,Tryz.lJ]
def AA {f:Func} {r:Nat} {t:TypeId} {tm:Array Value} {a:Addr} {v:Value} (hf:f.results= #[ResultVar.cell r t]) (ht:tm[r]?=some (.pointer (some a))) (hl:(loadVar t a).run prog W=.ok v W):(results f tm).run prog W=.ok v W:=by
 simp[results,hf,ht,asAddr,hl]
def eD {f:Func} {r:Nat} {a:Act} {b:Nat} {old cs:Array Value} (hf:f.results= #[ResultVar.cell r 42]) (ht:a.tmps[r]?=some (.pointer (some ⟨b,0,none⟩))) (hd:a.defers= []) (hg:W.heap[b]?=some (.cells old 42 (0,0))) (hs:cs.size=27) (hR:R (.returned (.agg cs)) (W.setRow b cs)):bodyPost prog f R .ret a (W.setRow b cs):=
 b_ (v:=.agg cs) (AA hf ht (ah3 (xI W b old cs _ _ hg) hs)) hd hR
def nE (c:aH K w W) {b:Nat} (hb:K b\/w.heap.size<=b) (cs:Array Value):aH K w (W.setRow b cs):=
 ⟨c.os,c.tape,c.output,bM c.size (by simp_all),fun i hi hK=>(gX W b i cs (fun e=>by grind)).trans (c.block i hi hK)⟩
def yj (l m n:Int) (w:ay):Calls prog 106 #[J l,J m,J n] w fun e w'=>e=.returned (.bool (decide (l<=n)&&decide (n<=m)))/\w'=w:=by
 by_cases h1:l<=n
 ·by_cases h2:n<=m
  ·rw[dS h1,dS h2];exact Xd
  ·rw[dS h1,dH h2];exact Xd
 ·rw[dH h1];exact Xd
def iq (c:Int) (w:ay):Calls prog 30 #[J c] w fun e w'=>e=.returned (.agg (d9 (coded c) aV aV aV))/\Z w w':=by
 go_enter func30,ntmps30;go_upto_region 1 with fail
 generalize hW:w.alloc _=W;have hB:Hid _:=show Z w W by rw[← hW];exact dY
 have hA:dB W w.heap.size:=by rw[← hW];exact⟨_,aK w _,rfl⟩
 clear hW;obtain⟨old,hg,hz⟩:=hA;have HG:Hid (W.heap[w.heap.size]?=some (.cells old 42 (0,0))):=hg;clear hg;go_wp2_with (refine eF rfl 42 (.tmp 2) (.tmp 4) rfl w.heap.size (d9 (coded c) aV aV aV) gM (by simp[Act.eval,d9,coded,aV,TN,cf0]) 42 old HG.out Tryz.lJ hz Fh ?_)
 exact eD results30 rfl rfl HG.out rfl ⟨rfl,below_setRow hB.out (aC _) _⟩
def yX (e:Hg) (ls:Value):Array Value:= #[J e.kd,J e.jb,J e.at_,J e.nd,J e.lm,ls]
def LH (e:Hg) (w:ay):Calls prog 103 #[.agg (yX e aV)] w fun r w'=>∃g,r=.returned (.agg (d9 (told [e]) (.slice (some ⟨g,0,none⟩) 1 1) aV aV))/\w.heap.size<=g/\w'.heap[g]?=some (.cells (yX e aV) 65 (0,0))/\Z w w':=by
 unfold yX aV;go_enter func103,ntmps103;go_upto_region 1 with fail
 generalize hW:(w.alloc _).alloc _=W;have hB:Hid _:=show Z w W by rw[← hW];exact dY.alloc dF _
 have hA:dB W (w.heap.size+1):=by rw[← hW];exact⟨_,by have:=aK (w.alloc (.cells #[J e.kd,J e.jb,J e.at_,J e.nd,J e.lm,.slice none 0 0] 65)) (.cells #[J 0,J 0,.slice none 0 0,J 0,J 0,J 0,J 0,J 0,J 0,J 0,.slice none 0 0,.slice none 0 0,J 0,O 0,O 0,J 0,J 0,J 0,J 0,J 0,J 0,J 0,J 0,J 0,J 0,J 0,J 0] 42);rwa [iI]at this,rfl⟩
 have hE:W.heap[w.heap.size]?=some (.cells #[J e.kd,J e.jb,J e.at_,J e.nd,J e.lm,.slice none 0 0] 65 (0,0)):=by exact Xh
 have e0:=fK 0 hE;have e1:=fK 1 hE;have e2:=fK 2 hE;have e3:=fK 3 hE;have e4:=fK 4 hE;have e5:=fK 5 hE;have hz2:w.heap.size+2<=W.heap.size:=by rw[← hW];simp
 clear hW hE;obtain⟨old,hg,hz⟩:=hA;have HG:Hid (W.heap[w.heap.size+1]?=some (.cells old 42 (0,0))):=hg;clear hg;go_wp2_with (refine eF rfl 42 (.tmp 2) (.tmp 5) rfl (w.heap.size+1) (d9 (told [e]) (.slice (some ⟨W.heap.size,0,none⟩) 1 1) (.slice none 0 0) (.slice none 0 0)) gM (by simp[Act.eval,d9,coded,told,TN,cf0]) 42 old ((iM _ _ _ ak).trans HG.out) Tryz.lJ hz (by simp[d9,Value.oneCell']) ?_)
 refine eD results103 rfl rfl ((iM _ _ _ ak).trans HG.out) rfl ⟨W.heap.size,rfl,by omega,?_,?_⟩
 ·exact (gX _ _ _ _ ak).trans (aK W _)
 ·exact below_setRow (hB.out.alloc ak _) ak _
theorem uZ (p:Pj):(Dw p).length=8:=rfl
theorem lq (p:Pj) (ps:List Pj):nZ (p::ps)=Dw p++nZ ps:=by simp[nZ]
def OW:∀ps:List Pj,(nZ ps).length=ps.length*8
 | []=>rfl
 | p::ps=>by rw[lq,tC,uZ,OW ps,dK];omega
theorem EN:∀ {ps:List Pj} {n i:Nat} {p:Pj},ps[n]?=some p->i<8->(nZ ps)[n*8+i]?=(Dw p)[i]?
 | [],_,_,_,h,_=>by grind
 | q::ps,n,i,p,h,hi=>by
  rw[lq]
  cases n with
  | zero=>grind[uZ]
  | succ n=>
   rw[SK (by rw[uZ];omega),uZ,show (n+1)*8+i - 8=n*8+i by omega]
   exact EN (by grind) hi
def OX:∀ {ps:List Pj} {n i:Nat} {p p':Pj} {v:Value},ps[n]?=some p->i<8->(Dw p).set i v=Dw p'->(nZ ps).set (n*8+i) v=nZ (ps.set n p')
 | [],_,_,_,_,_,h,_,_=>by grind
 | q::ps,n,i,p,p',v,h,hi,hv=>by
  rw[lq]
  cases n with
  | zero=>grind[uZ,lq]
  | succ n=>rw[List.set_append_right _ _ (by rw[uZ];omega),uZ,show (n+1)*8+i - 8=n*8+i by omega,jg,lq,OX (by grind) hi hv]
def uq.at {jo:Option Addr} {cap:Nat} {ps:List Pj} (h:uq S W jo cap ps) {p:Pj} (hp:ps[n]?=some p):
  ∃g,jo=some ⟨g,0,none⟩/\S g/\g<W.heap.size/\(∀i v,(Dw p)[i]?=some v->W.cell? ⟨g,n*8+i,none⟩=some v)/\∀k,W.frozen? ⟨g,k,none⟩=false:=by
 have hn:=(bO.1 hp).1;rcases h.1.2 with⟨_,h0⟩ | ⟨g,cp,cur,e,hb,hg,h1,h2,h3,h4⟩
 ·omega
 ·injection e with e1 e2 e3;subst e1;refine⟨g,rfl,h.2 g rfl,(aS.1 hg).1,fun i v hv=>?_,fun k=>aD hg⟩;have hi:i<8:=by grind[uZ]
  have e0:=(EN hp hi).trans hv;grind[aj]
def uq.set {g cap:Nat} {ps:List Pj} (h:uq S W (some ⟨g,0,none⟩) cap ps) {p p':Pj} {v:Value} (hp:ps[n]?=some p) (hi:i<8) (hv:(Dw p).set i v=Dw p'):
  uq S (W.setCell ⟨g,n*8+i,none⟩ v) (some ⟨g,0,none⟩) cap (ps.set n p'):=by
 refine⟨?_,fun k hk=>h.2 k (by grind)⟩;rw[Fz,<-OX hp hi hv];rcases h.1.2 with⟨e,_⟩ | ⟨g',cp,cur,e,hb,hg,h1,h2,h3,h4⟩
 ·grind
 ·injection e with e1 e2 e3;injection e1 with e1;injection e1 with e1;subst e1;subst e3;have e5:=bS W g (n*8+i) cur 38 v hg;refine⟨by grind,.inr ⟨g,cap,_,rfl,hb,e5,h1,h2,by grind,?_⟩⟩;grind[List.take_set]
def LJ {ps:List Pj} {p:Pj} (hp:ps[n]?=some p) (q:Pj) (hq:q.v=f p.v):(ps.set n q).map Pj.v=bX (ps.map Pj.v) n f:=by
 grind[bX,List.map_set]
theorem Tryz.adj:(prog.info? 65).map (·.size)=some 6:=aF
def amo {b:Nat} (h:W.heap[b]?=some (.cells cs 65 (0,0))) (hs:cs.size=6):(loadVar 65 ⟨b,0,none⟩).run prog W=.ok (.agg cs) W:=by
 grind[Fy,underlying65,Tryz.adj]
def LM {f:Func} {r:Nat} {a:Act} {b:Nat} {old cs:Array Value} (hf:f.results= #[ResultVar.cell r 65]) (ht:a.tmps[r]?=some (.pointer (some ⟨b,0,none⟩))) (hd:a.defers= []) (hg:W.heap[b]?=some (.cells old 65 (0,0))) (hs:cs.size=6) (hR:R (.returned (.agg cs)) (W.setRow b cs)):bodyPost prog f R .ret a (W.setRow b cs):=
 b_ (v:=.agg cs) (AA hf ht (amo (xI W b old cs _ _ hg) hs)) hd hR
def endP (st now:Int) (p:Pj):Pj:={p with v:=fQ st now p.v}
def Ro {now hd:Int} {t d wm a b cap:Nat} {jo:Option Addr} {ps:List Pj} (hx:w.heap[x]?=some (.cells (coreC c now t d jo ps.length cap hd wm a b) 100 (0,0))) (hr:uq S w jo cap ps) (hS:¬S x) (hSe:¬S w.heap.size) {p:Pj} (hp:ps[n]?=some p) (st:Int):
  Calls prog 143 #[.pointer (some ⟨x,0,none⟩),J n,J st] w fun e w'=>e=.returned (.agg (yX (gV n st now) aV))/\uq S w' jo cap (ps.set n (endP st now p))/\aH S w w':=by
 have hlt:=(bO.1 hp).1;have⟨W,hW⟩:=aZ (w.alloc (.cells #[J 0,J 0,J 0,J 0,J 0,.slice none 0 0] 65));have bW:Z w W:=by rw[← hW];exact dY
 have hE:W.heap[w.heap.size]?=some (.cells #[J 0,J 0,J 0,J 0,J 0,.slice none 0 0] 65 (0,0)):=by rw[← hW];exact aK w _
 have hxl:=(aS.1 hx).1;replace hr:=hr.kept (fun j hj _=>bW.block j hj);replace hx:=(bW.block x hxl).trans hx;obtain⟨g,rfl,hg,hgl,hc,hfz⟩:=hr.at hp;have x8:W.cell? ⟨x,8,none⟩=some (J now):=aj hx rfl;have JA:W.cell? ⟨x,11,none⟩=some (.slice (some ⟨g,0,none⟩) ps.length cap):=aj hx rfl;have hgx:g≠x:=fun e=>hS (e▸hg);have hge:g≠w.heap.size:=fun e=>hSe (e▸hg);have c4:=hc 4 _ rfl;have c6:=hc 6 _ rfl;have f4:=hfz (n*8+4);have f6:=hfz (n*8+6);have hk:n*8+4≠n*8+6:=ak;have R1:=hr.set (i:=4) (p':={p with v:={p.v with st:=st}}) (v:=J st) hp ak rfl;have R2:=uq.set (i:=6) (n:=n) (p:={p with v:={p.v with st:=st}}) (p':=endP st now p) (v:=J now) R1 (by rw[Cw hlt]) ak rfl;rw[JY]at R2;have HR:Hid _:=R2;have hl':(n:Int)<ps.length:=ak;have HG:Hid (W.heap[w.heap.size]?=some (.cells #[J 0,J 0,J 0,J 0,J 0,.slice none 0 0] 65 (0,0))):=hE;have hxe:x≠w.heap.size:=ak;have BW:Hid _:=bW;clear hc hfz hr R1 R2 hx bW hE;unfold yX gV aV;go_enter func143,ntmps143;go_upto_region 1 with fail
 go_region
 all_goals
  go_wp2_with (refine eF rfl 65 (.tmp 6) (.tmp 32) rfl w.heap.size #[J 3,J n,J now,J st,J 0,.slice none 0 0] gM gM 65 _ ((gy _ _ _ _ (iN hge)).trans ((gy _ _ _ _ (iN hge)).trans HG.out)) Tryz.adj rfl Ci ?_)
  refine LM results143 rfl rfl ((gy _ _ _ _ (iN hge)).trans ((gy _ _ _ _ (iN hge)).trans HG.out)) rfl ⟨rfl,?_,?_⟩
  ·exact uq.kept HR.out (fun j _ hj=>gX _ _ _ _ (fun e=>hSe (e▸hj)))
  ·exact nE ((((aH.of_below BW.out S).setCell _ _ (.inl hg)).setCell _ _ (.inl hg)).drew) (.inr (aC _)) _
section
variable {lab:Nat->Nat} {W W':ay} {x:Nat} {c:Cf} {now hd:Int} {la:List Ac} {jw:List Jv} {L:List A3.Ag.En} {F:Nat} {P:EM}
def Ex (lab:Nat->Nat) (i n j:Nat):Prop:=lab j=i\/n<=j
def iH.set1 (h:iH lab W x c now hd la jw L F P) (k:aH (fun k=>lab k=1) W W') {la':List Ac} (hu:nX la'=nX la) (hn:Tree (Ex lab 1 W.heap.size) W' P.t (la'.map aB) (gP (la'.map aB))):iH (uF lab 1 W.heap.size W'.heap.size) W' x c now hd la' jw L F P:=
 let l:=h.lift aT k
 ⟨l.blk aT,l.lx,hn.mono (fun _ hj hl=>uy hl hj),hu▸l.led aT,l.row aT,l.sets,l.wait aT,l.lw,l.due aT,l.free aT,l.lb,l.gl,l.vt,l.rt,l.top⟩
def iH.set2 (h:iH lab W x c now hd la jw L F P) (k:aH (fun k=>lab k=2) W W') {la':List Ac} (hp:la'.map aB=la.map aB) (hn:yT (Ex lab 2 W.heap.size) W' P.d c (nX la')):iH (uF lab 2 W.heap.size W'.heap.size) W' x c now hd la' jw L F P:=
 let l:=h.lift aT k
 ⟨l.blk aT,l.lx,hp▸l.tree aT,hn.mono (fun _ hj hl=>uy hl hj),l.row aT,l.sets,l.wait aT,l.lw,l.due aT,l.free aT,l.lb,l.gl,l.vt,l.rt,l.top⟩
def iH.Yr (h:iH lab W x c now hd la jw L F P) (k:aH (fun k=>lab k=3) W W') {ps':List Pj} (hl:ps'.length=P.ps.length) (hs:∀p∈ps',xg (fun j=>lab j=7) W p) (hn:uq (Ex lab 3 W.heap.size) W' P.jo P.cap ps'):iH (uF lab 3 W.heap.size W'.heap.size) W' x c now hd la jw L F {P with ps:=ps'}:=
 let l:=h.lift aT k
 ⟨by grind[Lf.blk],l.lx,l.tree aT,l.led aT,hn.mono (fun _ hj hl=>uy hl hj),fun p hp=>((hs p hp).kept k.size (fun j hj he=>k.block j hj ak)).mono (fun j hj he=>by
  have hj':j<W.heap.size:=by grind[top]
  grind[fu]),l.wait aT,l.lw,l.due aT,l.free aT,l.lb,l.gl,l.vt,l.rt,l.top⟩
def iH.ah4 (h:iH lab W x c now hd la jw L F P) (k:aH (fun k=>lab k=4) W W') {jw':List Jv} (hn:jq W' P.wm jw'):iH (uF lab 4 W.heap.size W'.heap.size) W' x c now hd la jw' L F P:=
 let l:=h.lift aT k
 ⟨l.blk aT,l.lx,l.tree aT,l.led aT,l.row aT,l.sets,hn,l.lw,l.due aT,l.free aT,l.lb,l.gl,l.vt,l.rt,l.top⟩
def iH.Tk (h:iH lab W x c now hd la jw L F P) (k:aH (fun k=>lab k=5) W W') {L':List A3.Ag.En} (hn:AgX (Ex lab 5 W.heap.size) W' P.a L'):iH (uF lab 5 W.heap.size W'.heap.size) W' x c now hd la jw L' F P:=
 let l:=h.lift aT k
 ⟨l.blk aT,l.lx,l.tree aT,l.led aT,l.row aT,l.sets,l.wait aT,l.lw,hn.mono (fun _ hj hl=>uy hl hj),l.free aT,l.lb,l.gl,l.vt,l.rt,l.top⟩
def iH.az7 (h:iH lab W x c now hd la jw L F P) (k:aH (fun k=>lab k=6) W W') {F':Nat} (hn:N2.fH W' P.b c.nodes.toNat F'):iH (uF lab 6 W.heap.size W'.heap.size) W' x c now hd la jw L F' P:=
 let l:=h.lift aT k
 ⟨l.blk aT,l.lx,l.tree aT,l.led aT,l.row aT,l.sets,l.wait aT,l.lw,l.due aT,hn,l.lb,l.gl,l.vt,l.rt,l.top⟩
def iH.set0 (h:iH lab W x c now hd la jw L F P) (k:aH (fun k=>lab k=0) W W') {now' hd':Int} (hn:W'.heap[x]?=some (.cells (coreC c now' P.t P.d P.jo P.ps.length P.cap hd' P.wm P.a P.b) 100 (0,0))):iH (uF lab 0 W.heap.size W'.heap.size) W' x c now' hd' la jw L F P:=
 let l:=h.lift aT k
 ⟨hn,l.lx,l.tree aT,l.led aT,l.row aT,l.sets,l.wait aT,l.lw,l.due aT,l.free aT,l.lb,l.gl,l.vt,l.rt,l.top⟩
def iH.field (h:iH lab W x c now hd la jw L F P) {q:Nat} {v:Value} {now' hd':Int} (hq:(coreC c now P.t P.d P.jo P.ps.length P.cap hd P.wm P.a P.b).setIfInBounds q v=coreC c now' P.t P.d P.jo P.ps.length P.cap hd' P.wm P.a P.b):iH lab (W.setCell ⟨x,q,none⟩ v) x c now' hd' la jw L F P:=by
 have k:aH (fun k=>lab k=0) W (W.setCell ⟨x,q,none⟩ v):=by grind[aH.refl,aH.setCell,lx]
 have hz:(W.setCell ⟨x,q,none⟩ v).heap.size=W.heap.size:=by simp_all
 have:=h.set0 k (now':=now') (hd':=hd') (by rw[← hq];exact bS W x q _ _ v h.blk)
 have e:uF lab 0 W.heap.size (W.setCell ⟨x,q,none⟩ v).heap.size=lab:=by
  funext j;unfold uF;rw[hz];by_cases hj:j<W.heap.size
  ·grind
  grind[top]
 grind
end
def vZ {x q:Nat} {v:Value} (h:lab x=0):Mv lab lab W (W.setCell ⟨x,q,none⟩ v):=⟨fun _ _=>rfl,(aH.refl _ W).setCell _ _ (.inl (by grind[Own]))⟩
end
section
open Go.RowKit Wd Tr Cg Ld
def EvB (W:ay) (b:Nat):Prop:=∃old,W.heap[b]?=some (.cells old 65 (0,0))/\old.size=6
theorem EvB.fF {b:Nat} (h:EvB W b) (c:aH K W W') (hK:¬K b):EvB W' b:=by
 grind[aH.block,EvB]
theorem EvB.below {b:Nat} (h:EvB W b) (c:Z W W'):EvB W' b:=by
 grind[lI,EvB]
def Ez (l:List Int) (j:Nat):Int:=l.getD j 0
def OY (n F:Nat) (l:List Int):Nat:=N2.Nd.rV n F (Ez l) l.length false
def amq {a m:Nat} {ao:Option Addr} (r:A3.r_ 198 239 w a m ao L) (n:Nat) (hn:n<=1000000):
  Calls prog 144 #[.pointer (some ⟨a,0,none⟩),J n] w fun e w'=>(∃b,e=.returned (.bool b))/\A3.r_ 198 239 w' a m ao (A3.Ag.BI n L)/\aH (A3.xE a m ao) w w':=by
 by_cases h:∃f∈L,f.id=(n:Int)
 ·obtain ⟨f,hf,e⟩:=h;rw[← e];exact(A3.Yy r f hf).mono fun e w' ⟨h1,h2,h3⟩=>⟨⟨_,h1⟩,h2,YQ h3⟩
 ·have hne:∀f∈L,f.id≠(n:Int):=fun f hf e=>h ⟨f,hf,e⟩;refine(A3.acT r n (vB ak) hne).mono fun e w' ⟨h1,h2⟩=>?_;subst h2;have:A3.Ag.BI n L=L:=by unfold A3.Ag.BI;rw[JH];intro f hf;simp[hne f hf]
  rw[this];exact⟨⟨_,h1⟩,r,aH.refl _ _⟩
def ah5 {b n F:Nat} (h:N2.fH w b n F) {p:Pj} (hs:xg S w p) (hb:¬S b):
  Calls prog 145 #[.pointer (some ⟨b,0,none⟩),.slice p.sa p.v.set.length p.sc] w fun e w'=>(∃k,e=.returned (J k))/\N2.fH w' b n (OY n F p.v.set)/\aH (fun k=>k=b) w w':=by
 have⟨g,o,h1,h2⟩:=hs.at_;have hf:=hs.few;by_cases h0:0<p.v.set.length
 ·have ho:=hs.own g o none (h1 h0);refine(N2.UR b n F g o p.v.set.length p.sc p.sa (Ez p.v.set) w h h1 (fun e=>hb (e▸ho.1)) ak (fun j hj=>?_)).mono fun e w' ⟨e1,e2,e3⟩=>⟨⟨_,e1⟩,e2,Gt e3⟩;have hx:=aY hj;have:=h2 j _ hx;rw[this];unfold Ez;simp[List.getD,hj]
 ·refine (N2.UR b n F (b+1) o p.v.set.length p.sc p.sa (Ez p.v.set) w h (fun hx=>absurd hx h0) ak ak (fun j hj=>by omega)).mono fun e w' ⟨e1,e2,e3⟩=>⟨⟨_,e1⟩,e2,Gt e3⟩
theorem iH.ret {now hd:Int} {la:List Ac} {jw:List Jv} {P:EM} (h:iH lab W x c now hd la jw L F P) {b:Nat} (h9:lab b=9) (h5:5<=b) (cs:Array Value):iH lab (W.setRow b cs) x c now hd la jw L F P:=h.fF (K:=fun k=>k=b) (nE (K:=fun k=>k=b) (aH.refl _ W) (.inl rfl) cs) (fun k hk=>by grind)
theorem Mv.ret {lab lab':Nat->Nat} (h:Mv lab lab' w W) {b:Nat} (hb:w.heap.size<=b) (cs:Array Value):Mv lab lab' w (W.setRow b cs):=⟨h.old,nE h.fF (.inr hb) cs⟩
def aA (w:ay):Z w w.drew:=⟨rfl,rfl,rfl,aC _,fun _ _=>rfl⟩
def YR (w:ay):EvB (w.alloc (.cells #[J 0,J 0,J 0,J 0,J 0,.slice none 0 0] 65)) w.heap.size:=⟨_,aK w _,rfl⟩
def LP {now hd:Int} {la:List Ac} {jw:List Jv} {P:EM} (h:iH lab w x c now hd la jw L F P) {p:Pj} (hp:P.ps[n]?=some p) (hn:n<=1000000) (st:Int):
  Calls prog 105 #[.pointer (some ⟨x,0,none⟩),J n,J st] w fun e w'=>e=.returned (.agg (yX (gV n st now) aV))/\∃lab',iH lab' w' x c now hd la jw (A3.Ag.BI n L) (OY c.nodes.toNat F p.v.set) {P with ps:=P.ps.set n (endP st now p)}/\Mv lab lab' w w':=by
 have⟨W,hW⟩:=aZ (w.alloc (.cells #[J 0,J 0,J 0,J 0,J 0,.slice none 0 0] 65));have bW:Z w W:=by rw[← hW];exact dY
 have hE:=hW▸YR w;have l9:=h.top _ (aC _);have iX:5<=w.heap.size:=h.Gv;have oz:w.heap.size<W.heap.size:=by rw[← hW];simp
 have h0:=h.below bW;have M0:Mv lab lab w W:=Mv.of_below bW;have⟨m,ao,hA,hAk⟩:=h0.due;have x14:W.cell? ⟨x,14,none⟩=some (.pointer (some ⟨P.a,0,none⟩)):=h0.cell rfl;have H0:Hid _:=h0;have HE:Hid _:=hE;have yJ:Hid _:=M0;clear h h0 hE M0 bW;go_enter func105,ntmps105;go_upto_region 2 with(go_at_call 144;refine(amq hA n hn).mono ?_;rintro e w1 ⟨⟨b1,rfl⟩,hA1,hc1⟩)
 have k1:=hc1.mono (fun j _ hj=>hAk j hj);have h1:=H0.out.Tk k1 ⟨m,ao,hA1,fun k hk=>.inl (hAk k hk)⟩;have M1:=(yJ.out.trans (Mv.lift aT k1)).below (aA w1);have hE1:=EvB.below (EvB.fF HE.out k1 (by rw[l9];decide)) (aA w1);have JB:uF lab 5 W.heap.size w1.heap.size w.heap.size=9:=by rw[fu oz];exact l9
 have hz1:=gL oz k1.size;generalize uF lab 5 W.heap.size w1.heap.size=BJ at h1 M1 JB;clear H0 yJ HE hA hA1 hc1 k1 hAk oz x14;have⟨g,hjo,hg,hgl,hc,hfz⟩:=h1.row.at hp;have hpm:=dW hp;have hlt:=(bO.1 hp).1;have hl':(n:Int)<P.ps.length:=ak;have c7:=hc 7 _ rfl;have JA:w1.cell? ⟨x,11,none⟩=some (.slice (some ⟨g,0,none⟩) P.ps.length P.cap):=by rw[← hjo];exact h1.cell rfl
 have x15:w1.cell? ⟨x,15,none⟩=some (.pointer (some ⟨P.b,0,none⟩)):=h1.cell rfl;replace h1:=h1.below (aA w1);have apk:=ah5 h1.free (h1.sets p hpm) (by rw[h1.lb];decide);have H1:Hid _:=h1;have Bu:Hid _:=M1;have WR:Hid _:=hE1;clear h1 M1 hE1 hc hfz;go_region_with (go_at_call 145;refine apk.mono ?_;rintro e w2 ⟨⟨k2,rfl⟩,hS2,hc2⟩)
 all_goals
  have k2':aH (fun k=>BJ k=6) w1.drew w2:=hc2.mono (fun j _ e=>by rw[e];exact H1.out.lb)
  have h2:=H1.out.az7 k2' hS2
  have M2:=Bu.out.trans (Mv.lift aT k2')
  have hE2:=EvB.fF WR.out k2' (by rw[JB];decide)
  have l92:uF BJ 6 w1.drew.heap.size w2.heap.size w.heap.size=9:=(fu (show w.heap.size<w1.drew.heap.size from hz1)).trans JB
  have hz2:=gL hz1 k2'.size
  generalize uF BJ 6 w1.drew.heap.size w2.heap.size=oh at h2 M2 l92
  clear H1 Bu WR apk hS2 hc2 k2' JA x15 c7
  have hend:=Ro h2.blk h2.row (by rw[h2.lx];decide) (by rw[h2.top _ (aC _)];decide) hp st
  have H2:Hid _:=h2
  have vS:Hid _:=M2
  have HE2:Hid _:=hE2
  clear h2 M2 hE2
  go_wp2_with (first
   | (go_at_call 143;refine hend.mono ?_;rintro e w3 ⟨rfl,hR3,k3⟩;have⟨ah6,hg3,hs3⟩:=EvB.fF HE2.out k3 (by rw[l92];decide);have Sw:Hid _:=hg3;clear hg3)
   | (refine eF rfl 65 (.tmp 6) (.tmp 29) rfl w.heap.size (yX (gV n st now) aV) gM gM 65 ah6 Sw.out Tryz.adj hs3 (by simp[yX,aV,Value.oneCell']) ?_))
  refine LM results105 rfl rfl Sw.out rfl ⟨rfl,uF oh 3 w2.heap.size w3.heap.size,?_,?_⟩
  ·have h3:=H2.out.Yr k3 (ps':=P.ps.set n (endP st now p)) (Fz ..) (fun q hq=>by
    rcases PO hq with hq | rfl
    ·exact H2.out.sets q hq
    ·have:=H2.out.sets p hpm
     exact⟨this.at_,this.nil,this.cap,this.few,this.own⟩) (hR3.mono (fun _ _ hl=>.inl hl))
   exact h3.ret (by rw[fu hz2];exact l92) iX _
  ·exact (vS.out.trans (Mv.lift aT k3)).ret (aC _) _
def Vr {l:List Int} (h:∀x∈l,0<=x):Ez l=N2.Nd.nth (l.map Int.toNat):=by
 grind[Ez,N2.Nd.nth,tH]
def OZ {l:List Int} (h:tT (n:Int) (-1) l=true):∀m,m<=l.length->N2.Nd.mq n (Ez l) m=true:=by
 have⟨h1,h2⟩:=zN.1 h;intro m;induction m with
 | zero=>intro _;rfl
 | succ m ih=>grind[Ez,N2.Nd.mq,tF]
def Vs {s:Sv} (v:Kept s) (h:kH s.cf s.js F) (hj:s.js[n]?=some j) (h2:j.st=2) (hf:(f j).st≠2):kH s.cf (bX s.js n f) (OY s.cf.nodes.toNat F j.set):=by
 have hr:=v.rng;have hset:=(v.ok.run hj h2).1;unfold mq at hset;simp only[lW,nS]at hset;have hn:((s.cf.nodes.toNat:Nat):Int)=s.cf.nodes:=by grind[nJ.n0,kH]
 have hrise:tT ((s.cf.nodes.toNat:Nat):Int) (-1) j.set=true:=by grind
 have⟨hm,hup⟩:=zN.1 hset.1;have h0:∀x∈j.set,0<=x:=by grind
 have hall:N2.Nd.rz F (Ez j.set) false j.set.length=true:=N2.Nd.Jw F _ false _ (fun k hk=>by
  grind[Ez,jM,kH])
 intro k;unfold OY N2.Nd.rV;rw[OZ hrise _ (aC _),hall];simp only[DT];have hnd:(j.set.map Int.toNat).Nodup:=by grind[tF,tH]
 have hlen:j.set.length=(j.set.map Int.toNat).length:=dF;rw[Vr h0,hlen,N2.Nd.Gj F _ hnd _ (aC _),oC,h k];have hmem:(k∈j.set.map Int.toNat)↔(k:Int)∈j.set:=by grind
 have htk:lM (bX s.js n f) (k:Int)=(lM s.js (k:Int)&& !decide ((k:Int)∈j.set)):=by
  rw[JQ,lW,jM,jM];constructor
  ·rintro ⟨m,x,h1,h3,h4⟩;rcases (kP hj).1 h1 with⟨rfl,rfl⟩ | ⟨hne,h1⟩
   ·omega
   ·refine ⟨⟨m,x,h1,h3,h4⟩,?_⟩;simp only[Fx,JJ];intro hin;have:=Ll h3 h2 (sO.1 v.ok.apart m n x j hne h1 hj);grind[zQ]
  ·rintro ⟨⟨m,x,h1,h3,h4⟩,h5⟩;simp only[Fx,JJ]at h5;have hne:m≠n:=(by grind);exact⟨m,x,(kP hj).2 (.inr ⟨hne,h1⟩),h3,h4⟩
 grind[jM]
theorem xk (h:kH c js F) (hc:1<=c.nodes/\c.nodes<=256):N2.Nd.mI F=(dZ c.nodes js).map Int.toNat:=by
 unfold N2.Nd.mI N2.Nd.frees dZ;have Yo:List.range 256=List.range c.nodes.toNat++(List.range (256 - c.nodes.toNat)).map (c.nodes.toNat+ ·):=by rw[← List.range_add];congr 1;omega
 rw[Yo,List.filter_append];have e2:((List.range (256 - c.nodes.toNat)).map (c.nodes.toNat+ ·)).filter (fun k=>F.testBit k)= []:=by rw[List.filter_eq_nil_iff];intro k hk;obtain⟨d,_,rfl⟩:=jH.1 hk;rw[h,dH ak];simp
 rw[e2,vW,List.filter_map,Fv];rw[show (Int.toNat∘fun k:Nat=>(k:Int))=id from by funext k;simp];rw[List.map_id];apply PS;intro k hk;have hk':=GZ.1 hk;rw[h k,dS ak,rO];rfl
def YS {s:Sv} (v:Kept s) (h:kH s.cf s.js F) (hj:s.js[n]?=some j) (h2:j.st≠2) {q:Nat} (hq:q<=(dZ s.cf.nodes s.js).length):kH s.cf (bX s.js n (dR now ((dZ s.cf.nodes s.js).take q))) (N2.Nd.pO F q):=by
 have hr:=v.rng;have hl:=xk h ⟨hr.n0,hr.n1⟩;intro k;rw[N2.Nd.UY F q (by rw[hl];simpa using hq),h k,hl];have h0:∀x∈dZ s.cf.nodes s.js,0<=x:=fun x hx=>(wW.1 hx).1;have hmem:(k∈((dZ s.cf.nodes s.js).map Int.toNat).take q)↔(k:Int)∈(dZ s.cf.nodes s.js).take q:=by
  rw[← List.map_take,jH];constructor
  ·rintro ⟨x,hx,e⟩;have:=h0 x (JU hx);rw[show (k:Int)=x by omega];exact hx
  ·intro hx;exact⟨(k:Int),hx,by omega⟩
 have htk:lM (bX s.js n (dR now ((dZ s.cf.nodes s.js).take q))) (k:Int)=(lM s.js (k:Int)||decide ((k:Int)∈(dZ s.cf.nodes s.js).take q)):=by
  rw[JQ,Bool.or_eq_true,jM,jM];constructor
  ·rintro ⟨m,x,h1,h3,h4⟩;rcases (kP hj).1 h1 with⟨rfl,rfl⟩ | ⟨hne,h1⟩
   ·exact .inr (dS h4)
   ·exact .inl ⟨m,x,h1,h3,h4⟩
  ·rintro (⟨m,x,h1,h3,h4⟩ | h5)
   ·refine ⟨m,x,(kP hj).2 (.inr ⟨fun e=>?_,h1⟩),h3,h4⟩;subst e;rw[hj]at h1
    cases h1;exact h2 h3
   ·exact ⟨n,_,rY hj,rfl,jY h5⟩
 rw[htk];by_cases hin:(k:Int)∈(dZ s.cf.nodes s.js).take q
 ·obtain ⟨_,hx2,hx3⟩:=wW.1 (JU hin);rw[dS (hmem.2 hin),dS hin,hx3,dS hx2];rfl
 ·rw[dH (fun e=>hin (hmem.1 e)),dH hin];simp
end
end Go.Proofs.YtdhifkbbjlhcaaaGreatDoor
