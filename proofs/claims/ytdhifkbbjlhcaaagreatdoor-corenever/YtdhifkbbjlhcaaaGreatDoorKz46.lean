import Derived.Test.YtdhifkbbjlhcaaaGreatDoorKz40
import Derived.Test.YtdhifkbbjlhcaaaGreatDoorKz45
set_option maxRecDepth 20000
set_option maxHeartbeats 2000000
set_option linter.defProp false
namespace Go.Proofs.YtdhifkbbjlhcaaaGreatDoor
open Go.Proofs.Tryz
variable {H:Type} {W w:ay} {ao:Option Addr} {fuel:Nat}
section
open Go.RowKit Wd Tr Cg Ld
def Cs (w:ay) (b:Nat):Nat->List Value->Prop
 | _,[]=>True
 | i,v::l=>w.cell? ⟨b,i,none⟩=some v/\Cs w b (i+1) l
def apC {b:Nat}:∀(l:List Value) (i:Nat),(∀k v,l[k]?=some v->w.cell? ⟨b,i+k,none⟩=some v)->Cs w b i l
 | [],_,_=>trivial
 | v::l,i,h=>⟨h 0 v rfl,apC l (i+1) fun k u hu=>by rw[Nat.add_assoc,Nat.add_comm 1];simp_all⟩
def mU {b:Nat} {l:List Value} {t:TypeId} {f:Nat×Nat} (h:w.heap[b]?=some (.cells l.toArray t f)):Cs w b 0 l:=
 apC l 0 fun k v hv=>by grind[aj]
def sJ (w:ay) (A:Array Value) (t:TypeId):∃W,w.alloc (.cells A t)=W/\Z w W/\W.heap[w.heap.size]?=some (.cells A t (0,0))/\W.heap.size=w.heap.size+1:=
 ⟨_,rfl,dY,aK w _,by simp⟩
def E_ (w:ay) (A B:Array Value) (t u:TypeId):∃W,(w.alloc (.cells A t)).alloc (.cells B u)=W/\Z w W/\W.heap[w.heap.size]?=some (.cells A t (0,0))/\W.heap[w.heap.size+1]?=some (.cells B u (0,0))/\W.heap.size=w.heap.size+2:=by
 grind[World.alloc,aI,Below.alloc]
def qG (w:ay) (Z0 A:Array Value) (t:TypeId):∃V,(w.alloc (.cells Z0 t)).setRow w.heap.size A=V/\Z w V/\V.heap[w.heap.size]?=some (.cells A t (0,0))/\V.heap.size=w.heap.size+1:=by
 have b:Z w (w.alloc (.cells Z0 t)):=by grind[aI,Below.alloc]
 have hz:((w.alloc (.cells Z0 t)).setRow w.heap.size A).heap.size=w.heap.size+1:=by simp_all
 exact⟨_,rfl,⟨b.os,b.tape,b.output,by omega,fun i hi=>(gX _ _ i _ ak).trans (b.block i hi)⟩,xI _ _ _ _ _ _ (aK w _),hz⟩
def bP {w V:ay} {b:Nat} {o:Obj} (h:w.heap[b]?=some o) (k:Z w V):V.heap[b]?=some o:=(k.block b (aS.1 h).1).trans h
def RO {lab:Nat->Nat} {x:Nat} {s:Sv} (h:Cr lab w x s) (v:Kept s) (c:Cd):Calls prog 57 #[.pointer (some ⟨x,0,none⟩),.agg (fM c)] w (qU lab w x (iB s c)):=by
 obtain⟨P,L,F,h,hjs,hL,hF⟩:=h;have⟨W,hW,bW,hC,hA,hz⟩:=gH w c;have l9:=h.top _ (aC _);have qW:lab (w.heap.size+1)=9:=h.top _ ak;have iX:5<=w.heap.size+1:=by have:=h.Gv;omega
 have h0:=h.below bW;have M0:Mv lab lab w W:=Mv.of_below bW;have hlen:P.ps.length=s.js.length:=by rw[← hjs,dL]
 have kI:=v.ok.many;have cj:W.cell? ⟨w.heap.size,6,none⟩=some (J c.jb):=aj hC rfl;have hhas:=DC h0 ak c.jb;have JA:W.cell? ⟨x,11,none⟩=some (.slice P.jo P.ps.length P.cap):=h0.cell rfl;have H0:Hid _:=h0;have yJ:Hid _:=M0;have HA:Hid (dB W (w.heap.size+1)):=hA;have oz:w.heap.size+1<W.heap.size:=ak;clear h h0 M0 bW hC hA;unfold fM
 cases hj:oG s c.jb with
 | none=>
  have hb:(decide (0<=c.jb)&&decide (c.jb<=(P.ps.length:Int) - 1))=false:=by exact aeZ
  rw[hb]at hhas;have hS:iB s c=(s,coded 182):=by unfold iB;rw[hj]
  rw[hS];go_enter func57,ntmps57;go_wp2_with (first
   | (go_at_call 102;refine hhas.mono ?_;rintro e w1 ⟨rfl,rfl⟩)
   | (go_at_call 30;refine(iq _ _).mono ?_;rintro e w2 ⟨rfl,b2⟩;have⟨iJ,jW,hsA⟩:=dM (dB.below HA.out b2))
   | (refine eF rfl 42 (.tmp 4) (.tmp 10) rfl (w.heap.size+1) (d9 (coded 182) aV aV aV) gM gM 42 iJ jW.out Tryz.lJ hsA Fh ?_))
  refine eD results57 rfl rfl jW.out rfl ⟨lab,_,rfl,⟨P,L,F,(H0.out.below b2).ret qW iX _,hjs,hL,hF⟩,(yJ.out.below b2).ret ak _,iw lab _ _ _⟩
 | some j=>
  have⟨hc0,hjn⟩:=LG hj;obtain⟨n,hn⟩:∃n:Nat,c.jb=n:=⟨c.jb.toNat,by omega⟩;rw[hn,gJ]at hjn;have hnl:=(bO.1 hjn).1;obtain⟨p,hp,rfl⟩:∃p,P.ps[n]?=some p/\p.v=j:=by exact ae1
  have hb:(decide (0<=c.jb)&&decide (c.jb<=(P.ps.length:Int) - 1))=true:=fE;rw[hb]at hhas;have⟨g,hjo,hg,hgl,hcl,hfz⟩:=H0.out.row.at hp;have c4:=hcl 4 _ rfl;rw[hjo]at JA;have hl':(n:Int)<P.ps.length:=ak;clear hcl hfz hb hc0;rw[hn]at hhas cj hW ⊢;go_enter func57,ntmps57;go_upto_region 3 with(go_at_call 102;refine hhas.mono ?_;rintro e w1 ⟨rfl,rfl⟩)
  go_quiet (fail)
  have bV:=n_ w1 nq;have hV:=H0.out.below bV;have MV:=yJ.out.below bV;have AV:=dB.below HA.out bV;have O8:w.heap.size+1<(w1.drewN nq).heap.size:=oz;have cjV:(w1.drewN nq).cell? ⟨w.heap.size,6,none⟩=some (J n):=cj;generalize w1.drewN nq=V at hV MV AV O8 cjV ⊢;clear H0 yJ HA hhas JA c4 cj bV hW hgl hg hl';have hn6:n<=1000000:=ak;by_cases h2:p.v.st=2
  ·have hS:iB s c=EI s n 3:=by unfold iB;rw[hj];simp only;rw[aJ h2,hn,gJ]
   have hstop:=LP hV hp hn6 3;rw[h2];have AV':Hid (dB V (w.heap.size+1)):=AV;have QZ:Hid _:=MV;clear hV AV MV;go_wp2_with (first
    | (go_at_call 105;refine hstop.mono ?_;rintro e w3 ⟨rfl,xw,h3,M3⟩;have H3:Hid _:=h3;have yK:Hid _:=M3;clear h3 M3)
    | (go_at_call 103;refine(LH _ _).mono ?_;rintro e w4 ⟨g4,rfl,hg4,hb4,b4⟩;have⟨iJ,jW,hsA⟩:=dM (dB.below (yK.out.Y4 AV'.out qW) b4);have Bw:Hid _:=hb4;clear hb4)
    | (refine eF rfl 42 (.tmp 4) (.tmp 26) rfl (w.heap.size+1) (d9 (told [gV n 3 s.now]) (.slice (some ⟨g4,0,none⟩) 1 1) aV aV) gM gM 42 iJ jW.out Tryz.lJ hsA Fh ?_))
   have l93:=(yK.out.old _ O8).trans qW;rw[hS];refine eD results57 rfl rfl jW.out rfl ⟨xw,_,rfl,⟨_,_,_,((H3.out.below b4).ret l93 iX _).rew (jq.aiF (f:=fQ 3 s.now) ((H3.out.below b4).ret l93 iX _).wait hjn ak (by show (3:Int)≠1;decide)),?_,aaO (f:=fQ 3 s.now) hL hjn (by show (3:Int)≠2;decide),Vs (f:=fQ 3 s.now) v hF hjn h2 (by show (3:Int)≠2;decide)⟩,((QZ.out.trans yK.out).below b4).ret ak _,LZ O8 yK.out H3.out.top hg4 Bw.out rfl _⟩;show (P.ps.set n (endP 3 s.now p)).map Pj.v=bX s.js n (fQ 3 s.now);rw[← hjs];exact LJ hp _ rfl
  ·have hS:iB s c=(s,coded 183):=by unfold iB;rw[hj];simp only;rw[au h2]
   have d2:=dH h2;have q2:(p.v.st==2)=false:=(by simpa using h2);have AV':Hid (dB V (w.heap.size+1)):=AV;have QZ:Hid _:=MV;have HV:Hid _:=hV;clear hV AV MV h2;go_wp2_with (first
    | (go_at_call 30;refine(iq _ _).mono ?_;rintro e w2 ⟨rfl,b2⟩;have⟨iJ,jW,hsA⟩:=dM (dB.below AV'.out b2))
    | (refine eF rfl 42 (.tmp 4) (.tmp 21) rfl (w.heap.size+1) (d9 (coded 183) aV aV aV) gM gM 42 iJ jW.out Tryz.lJ hsA Fh ?_))
   rw[hS];exact eD results57 rfl rfl jW.out rfl ⟨lab,_,rfl,⟨P,L,F,(HV.out.below b2).ret qW iX _,hjs,hL,hF⟩,(QZ.out.below b2).ret ak _,iw lab _ _ _⟩
end
section
open Go.ChangeShapes Go.WideShapes Go.ChangeAt Go.RowKit Go.Joins Wd Ld Cg Tr
def Tryz.laidOut:laidOutB prog=true:=aF
def Tryz.am4:prog.cellsOf 23=8:=aF
def Tryz.Wm:prog.cellsOf 45=8:=aF
def Tryz.aje:prog.bytesOf 45=80:=aF
theorem arY {g o:Nat} {s:Option _} {v:Value} (h0:W.cell? (⟨g,o,s⟩:Addr)=some v):s=none:=by
 cases s with
 | none=>rfl
 | some t=>grind[World.cell?]
def Iz {P:Program} {e:TypeId}:∀ {l:List (DataW H)} {d:DataW H},d∈l->∀n∈d.weights P e,n∈DataW.weightsAll P e l
 | [],d,h,n,hn=>by grind
 | x::l,d,h,n,hn=>by
  simp only[DataW.weightsAll,pX];rcases lZ.1 h with rfl | h
  ·grind
  ·exact .inr (Iz h n hn)
def ajf {α:Type} {enc:TypeId×Value->H} {L sc:Nat} {x:DataW H×List MemPlace} {t e rG z:Nat} (C:α->List Value) (d:α) (ok:α->Prop) (hz:0<z) (hC:∀f,(C f).length=z)
  (hu:prog.underlying t=some (.slice e)) (hce:prog.cellsOf e=z) (hby:prog.bytesOf e=rG)
  (one:∀ {fuel:Nat} {cs:List Value} {x:DataW H×List MemPlace},DataW.trod enc prog W 0 (fun _=>true) true fuel e cs=some x->(∀n∈x.1.weights prog e,n<=reachBytes)->∃f:α,cs=C f/\ok f)
  (h:DataW.trod enc prog W 0 (fun _=>true) true fuel t [.slice ao L sc]=some x) (hw:∀n∈x.1.weights prog t,n<=reachBytes):
  L*rG<=140737488351232/\∃l:List α,l.length=L/\(∃g o,(0<l.length->ao=some ⟨g,o,none⟩)/\∀k r,l[k]?=some r->∀i v,(C r)[i]?=some v->W.cell? ⟨g,o+k*z+i,none⟩=some v)/\(∀r∈l,ok r)/\(ao=none->l.length=0/\sc=0)/\L<=sc:=by
 rcases Go.Deep.open_slice hu h with⟨hc,_⟩ | ⟨a,len,cap,m,n,D,Pl,hc,_,hl,_,hm,hx,hel⟩
 ·simp_all
 ·simp at hc;obtain⟨rfl,rfl,rfl⟩:=hc;rw[hce]at hel;simp at hm;subst hm;have hb:=hw ((((List.range L).map D).length+((List.range (m - L)).map fun j=>D (L+j)).length)*prog.bytesOf e) (by grind[DataW.weights]);rw[hby]at hb;simp only[reachBytes,dL,SE]at hb;have aAZ:∀k,∃f:α,k<L->W.cells? 0 (a.add (k*z)) z=some (C f)/\ok f:=fun k=>by
   by_cases hk:k<L
   ·have⟨cs,h1,h2⟩:=hel k ak;obtain⟨f,rfl,hf⟩:=one h2 (fun n hn=>hw n (by rw[hx];simp only[DataW.weights,hu];exact ny _ (List.mem_append_left _ (Iz (List.mem_map_of_mem (GZ.2 hk)) n hn))));grind
   ·exact ⟨d,fun h=>absurd h hk⟩
  have⟨f,hf⟩:=Classical.axiomOfChoice aAZ;have hget:∀k r,((List.range L).map f)[k]?=some r->k<L/\r=f k:=by grind
  have hLm:L*rG<=(L+(m - L))*rG:=by grind
  refine⟨by omega,(List.range L).map f,by simp,?_,fun r hr=>?_,(fun h=>by grind),hl⟩
  ·by_cases hL:0<L
   ·obtain ⟨g,o,s⟩:=a;have hcell:∀k,k<L->∀i v,(C (f k))[i]?=some v->W.cell? ((⟨g,o,s⟩:Addr).add (k*z+i))=some v:=fun k hk i v hv=>by have hi:i<z:=(by grind);obtain⟨_,hlen,hcell⟩:=World.cells?_some (hf k hk).1;grind[Deep.add_add]
    have hs:s=none:=by obtain⟨v,hv⟩:∃v,(C (f 0))[0]?=some v:=⟨_,aY (by grind)⟩;grind[Addr.add,arY]
    grind[Addr.add_lit]
   simp_all
  grind
def eight {α:Type} {l:List α} (h:l.length=8):∃a b c d e f g i,l= [a,b,c,d,e,f,g,i]:=by
 match l,h with
 | [a,b,c,d,e,f,g,i],_=>grind
def arZ {α:Type} {cs:Array α} (h:cs.size=8):∃c0 c1 c2 c3 c4 c5 c6 c7,cs= #[c0,c1,c2,c3,c4,c5,c6,c7]:=by
 obtain⟨l⟩:=cs;match l,h with
 | [c0,c1,c2,c3,c4,c5,c6,c7],_=>grind
def ajg {enc:TypeId×Value->H} {b0:Nat} {r:Reach} {v:Value} {d:DataW H} {p:List MemPlace}
  (hv:Value.okWide prog W r b0 23 v) (h:DataW.Trod enc prog W 0 (fun _=>true) true 23 v d p):∃c:Cf,v=gY c:=by
 obtain⟨cs,rfl,hsz⟩:=okWide_struct underlying23 hv;obtain⟨c0,c1,c2,c3,c4,c5,c6,c7,rfl⟩:=arZ (hsz.trans Tryz.am4);obtain⟨fuel,hf⟩:=h;obtain⟨xs,n,_,_,hl,hlen,hf⟩:=DataW.trod_struct underlying23 hf;obtain⟨y0,y1,y2,y3,y4,y5,y6,y7,rfl⟩:=eight (l:=xs) hlen;have h0:=hf 0 _ rfl;have h1:=hf 1 _ rfl;have h2:=hf 2 _ rfl;have h3:=hf 3 _ rfl;have h4:=hf 4 _ rfl;have h5:=hf 5 _ rfl;have h6:=hf 6 _ rfl;have h7:=hf 7 _ rfl;simp[Tryz.Mt,Value.cells]at h0 h1 h2 h3 h4 h5 h6 h7;obtain⟨z0,e0,_,_⟩:=oD underlying3 h0;obtain⟨z1,e1,_,_⟩:=oD underlying3 h1;obtain⟨z2,e2,_,_⟩:=oD underlying3 h2;obtain⟨z3,e3,_,_⟩:=oD underlying3 h3;obtain⟨z4,e4,_,_⟩:=oD underlying3 h4;obtain⟨z5,e5,_,_⟩:=oD underlying3 h5;obtain⟨z6,e6,_,_⟩:=oD underlying3 h6;obtain⟨z7,e7,_,_⟩:=oD underlying3 h7;simp at e0 e1 e2 e3 e4 e5 e6 e7;subst e0 e1 e2 e3 e4 e5 e6 e7;exact⟨⟨z0,z1,z2,z3,z4,z5,z6,z7⟩,rfl⟩
def Mx (c:Cd):List Value:= [J c.kind,.string c.nm,.string c.pa,J c.sh,J c.nd,J c.lm,J c.jb,J c.tk]
def GH (c:Cd):Prop:=c.nm.size<=maxLen/\c.pa.size<=maxLen
def ar0 {enc:TypeId×Value->H} {cs:List Value} {x:DataW H×List MemPlace} (h:DataW.trod enc prog W 0 (fun _=>true) true fuel 45 cs=some x) (_:∀n∈x.1.weights prog 45,n<=reachBytes):
  ∃f:Cd,cs=Mx f/\GH f:=by
 obtain⟨xs,n,_,rfl,hl,hlen,hf⟩:=DataW.trod_struct underlying45 h;rw[Tryz.Wm]at hl;obtain⟨c0,c1,c2,c3,c4,c5,c6,c7,rfl⟩:=eight hl;obtain⟨y0,y1,y2,y3,y4,y5,y6,y7,rfl⟩:=eight (l:=xs) hlen;clear h;have h0:=hf 0 _ rfl;have h1:=hf 1 _ rfl;have h2:=hf 2 _ rfl;have h3:=hf 3 _ rfl;have h4:=hf 4 _ rfl;have h5:=hf 5 _ rfl;have h6:=hf 6 _ rfl;have h7:=hf 7 _ rfl;simp[Tryz.Mt,Tryz.V_]at h0 h1 h2 h3 h4 h5 h6 h7;obtain⟨z0,e0,_,_⟩:=oD underlying3 h0;obtain⟨z1,e1,_,w1⟩:=DataW.trod_string underlying9 h1;obtain⟨z2,e2,_,w2⟩:=DataW.trod_string underlying9 h2;obtain⟨z3,e3,_,_⟩:=oD underlying3 h3;obtain⟨z4,e4,_,_⟩:=oD underlying3 h4;obtain⟨z5,e5,_,_⟩:=oD underlying3 h5;obtain⟨z6,e6,_,_⟩:=oD underlying3 h6;obtain⟨z7,e7,_,_⟩:=oD underlying3 h7;simp at e0 e1 e2 e3 e4 e5 e6 e7;subst e0 e1 e2 e3 e4 e5 e6 e7;exact⟨⟨z0,z1,z2,z3,z4,z5,z6,z7⟩,rfl,w1,w2⟩
def uD (w:ay) (ao:Option Addr) (l:List Cd):Prop:=∃g o,(0<l.length->ao=some ⟨g,o,none⟩)/\∀k c,l[k]?=some c->∀i v,(Mx c)[i]?=some v->w.cell? ⟨g,o+k*8+i,none⟩=some v
theorem uD.below {w w':ay} {l:List Cd} (h:uD w ao l) (b:Z w w'):uD w' ao l:=by
 obtain⟨g,o,h1,h2⟩:=h;exact⟨g,o,h1,fun k c hc i v hv=>(b.cell (aU w _ (h2 k c hc i v hv))).trans (h2 k c hc i v hv)⟩
def RP {enc:TypeId×Value->H} {L sc:Nat} {x:DataW H×List MemPlace}
  (h:DataW.trod enc prog W 0 (fun _=>true) true fuel 24 [.slice ao L sc]=some x) (hw:∀n∈x.1.weights prog 24,n<=reachBytes):
  L*80<=140737488351232/\∃l:List Cd,l.length=L/\uD W ao l/\∀c∈l,GH c:=by
 obtain⟨h1,l,h2,h3,h5,_⟩:=ajf Mx ⟨0,⟨#[]⟩,⟨#[]⟩,0,0,0,0,0⟩ GH aT (fun _=>rfl) underlying24 Tryz.Wm Tryz.aje ar0 h hw;grind[uD]
end
end Go.Proofs.YtdhifkbbjlhcaaaGreatDoor
