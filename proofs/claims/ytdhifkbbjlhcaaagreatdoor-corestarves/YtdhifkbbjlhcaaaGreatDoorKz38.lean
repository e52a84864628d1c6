import Derived.Test.YtdhifkbbjlhcaaaGreatDoorKz36
import Derived.Test.YtdhifkbbjlhcaaaGreatDoorKz37
set_option maxRecDepth 20000
set_option maxHeartbeats 1000000
set_option linter.defProp false
namespace Go.Proofs.YtdhifkbbjlhcaaaGreatDoor
open Go.Proofs.Tryz
variable {B c:Nat} {W w:ay} {ao:Option Addr} {free now:Int} {h:Pq.Pr.Wt} {l:List Pq.Pr.Wt} {rs:List Pq.Pr.Rn} {s:Pq.Pr.Ps} {v vr vs:Value}
namespace Pq
open Go.RowKit Pr
def arf (need:Int) (o:Option Stp):SX need o=.tuple #[J (atO o),J (exO need o),.bool o.isSome]:=by
 cases o<;>rfl
def EX {l:List Rn} (h:W.ownsRow B 108 2 v l.length (fJ l)):∃ra rc,v=.slice ra l.length rc/\eO W ra l:=by
 rcases h.2 with⟨rfl,h0⟩ | ⟨g,cap,cur,rfl,hb,hg,_,_,_,ht⟩
 ·exact ⟨none,0,by grind,0,0,fun h=>by omega,fun j s hs=>by grind⟩
 ·refine ⟨some ⟨g,0,none⟩,cap,rfl,g,0,fun _=>rfl,fun j s hs=>?_⟩;have hj:j<l.length:=by grind
  have⟨h1,h2⟩:=LU l j s hs;grind[aj]
def KM.Rs {B m r u:Nat} {w w1 w2:ay} (h1:aH (fun i=>KM B m r w i\/i=u) w w1) (h2:aH (fun i=>KM B m r w1 i\/i=u) w1 w2):aH (fun i=>KM B m r w i\/i=u) w w2:=by
 grind[aH.trans,aH.block,KM]
def O4 {B m r u i:Nat} {W W':ay} {cs:Array Value} {t:TypeId} (hM:Mc B m r vr ao c vs now s h l W) (hC:aH (fun i=>KM B m r W i\/i=u) W W') (hb:W.heap[i]?=some (.cells cs t (0,0)))
  (h1:t≠301) (h2:i≠r) (h3:t≠108) (h4:t≠3) (h5:i≠u):W'.heap[i]?=some (.cells cs t (0,0)):=by
 refine(hC.block i (aW hb) (fun e=>?_)).trans hb;rcases e with(e | e | ⟨_,cs',t',ht,hk⟩) | e
 ·exact iV hb hM.blk h1 e
 ·omega
 ·grind
 omega
def adz {now T X:Int} {k:Nat} {w:Wt} (h:l[k]?=some w):jC now T s X (l.drop k)=(if w.nd<=s.fr/\now+w.lm<=T then jC now T (sw now s w) X (l.drop (k+1))
   else if w.nd<=s.fr/\w.nd<=X then jC now T (sw now s w) (X - w.nd) (l.drop (k+1))else jC now T s X (l.drop (k+1))):=by
 grind[tu,jC]
structure Fl (B m r uu:Nat) (ao:Option Addr) (c:Nat) (now T:Int) (h:Wt) (l:List Wt) (W0:ay) (s:Ps) (X:Int) (W:ay):Prop where
 mc:∃vr vs,Mc B m r vr ao c vs now s h l W
 ex:W.heap[uu]?=some (.cells #[J X] 331 (0,0))
 dl:W.heap[uu+1]?=some (.cells #[J now,J T] 334 (0,0))
 fF:aH (fun i=>KM B m r W0 i\/i=uu) W0 W
section
variable {B m r uu c:Nat} {ao:Option Addr} {now free T X:Int} {s:Ps} {h x:Wt} {l:List Wt} {W0 W W':ay} {rs:List Rn}
theorem Fl.below (F:Fl B m r uu ao c now T h l W0 s X W) (b:Z W W'):Fl B m r uu ao c now T h l W0 s X W':=by
 have⟨vr,vs,hM⟩:=F.mc;exact⟨⟨vr,vs,hM.below b⟩,(b.block _ (aW F.ex)).trans F.ex,(b.block _ (aW F.dl)).trans F.dl,KM.Rs F.fF (aH.of_below b _)⟩
theorem Fl.row (F:Fl B m r uu ao c now T h l W0 s X W) (o:Obj):Fl B m r uu ao c now T h l W0 s X (W.drew.alloc o):=F.below ((BN (aI _ W)).alloc (aC _) _)
def sH {i:Nat} {o o':Obj} (hb:W.heap[i]?=some o):(W.drew.alloc o').heap[i]?=some o:=(iM _ _ _ (aW hb)).trans hb
def Fl.amE (F:Fl B m r uu ao c now T h l W0 s X W) (hur:uu≠r) (hg:Pr.Good now free rs s) (hf:free<=256) (hn:rs.length*16+4096<=140737488355328) (hB:B<=W.heap.size) (xo:OkW x) (n0:0<=now) (n1:now<=2199023255552) {zb:Nat} (hx:W.heap[zb]?=some (wtB x)):
  ads m W.drew.heap.size 2 x (W.drew.alloc (.cells #[.iface 299 (.pointer (some ⟨r,0,none⟩)),.iface 334 (.agg #[J now,J T])] 353)) fun e w=>∃b s',e=.returned (.bool b)/\(b=true/\(x.nd<=s.fr/\now+x.lm<=T)/\s'=sw now s x\/b=false/\¬(x.nd<=s.fr/\now+x.lm<=T)/\s'=s)/\Fl B m r uu ao c now T h l W0 s' X w/\w.heap[zb]?=some (wtB x):=by
 have⟨vr,vs,hM⟩:=F.mc;have R:=F.row (.cells #[.iface 299 (.pointer (some ⟨r,0,none⟩)),.iface 334 (.agg #[J now,J T])] 353);have hM1:=hM.qC (.cells #[.iface 299 (.pointer (some ⟨r,0,none⟩)),.iface 334 (.agg #[J now,J T])] 353);refine(ain hM1 (aK W.drew _) xo.n1 xo.n2 xo.l1 xo.l2 n0 n1 (fun hx hd=>?_)).mono ?_
 ·exact afe
 ·rintro e w (⟨h1,h2,⟨yU,vs',h3⟩,h4⟩ | ⟨h1,h2,h3⟩)
  ·have h5:=h4.mono (K':=fun i=>KM B m r _ i\/i=uu) (fun _ _ e=>.inl e);have ne:∀ {i:Nat} {cs:Array Value} {t:TypeId},(W.drew.alloc _).heap[i]?=some (.cells cs t (0,0))->t≠301->i≠r->t≠108->t≠3->w.heap[i]?=some (.cells cs t (0,0)):=fun {i cs t} hb a1 a2 a3 a4=>(h4.block i (aW hb) (fun e=>by
    rcases e with e | e | ⟨_,cs',t',ht,hk⟩
    ·exact iV hb hM1.blk a1 e
    ·omega
    grind)).trans hb
   exact⟨true,_,h1,.inl ⟨rfl,h2,rfl⟩,⟨⟨yU,vs',h3⟩,ne R.ex aT hur aT aT,ne R.dl aT (iV R.dl hM1.room aT) aT aT,KM.Rs R.fF h5⟩,ne (sH hx) aT (iV (sH hx) hM1.room aT) aT aT⟩
  ·exact ⟨false,_,h1,.inr ⟨rfl,h2,rfl⟩,R.below h3,(h3.block _ (aW (sH hx))).trans (sH hx)⟩
def Fl.aiu (F:Fl B m r uu ao c now T h l W0 s X W) (hur:uu≠r) (hg:Pr.Good now free rs s) (hf:free<=256) (hn:rs.length*16+4096<=140737488355328) (hB:B<=W.heap.size) (xo:OkW x) (n0:0<=now) (n1:now<=2199023255552) (hX:X<=1152921504606846976) {zb:Nat} (hx:W.heap[zb]?=some (wtB x)):
  ads m W.drew.heap.size 2 x (W.drew.alloc (.cells #[.iface 299 (.pointer (some ⟨r,0,none⟩)),.iface 299 (.pointer (some ⟨uu,0,none⟩))] 353)) fun e w=>∃b s' X',e=.returned (.bool b)/\((x.nd<=s.fr/\x.nd<=X)/\s'=sw now s x/\X'=X - x.nd\/¬(x.nd<=s.fr/\x.nd<=X)/\s'=s/\X'=X)/\Fl B m r uu ao c now T h l W0 s' X' w/\w.heap[zb]?=some (wtB x):=by
 have⟨vr,vs,hM⟩:=F.mc;have R:=F.row (.cells #[.iface 299 (.pointer (some ⟨r,0,none⟩)),.iface 299 (.pointer (some ⟨uu,0,none⟩))] 353);have hM1:=hM.qC (.cells #[.iface 299 (.pointer (some ⟨r,0,none⟩)),.iface 299 (.pointer (some ⟨uu,0,none⟩))] 353);refine(aio hM1 (aK W.drew _) R.ex hur xo.n1 xo.n2 xo.l1 xo.l2 n0 n1 hX (fun hx hd=>?_)).mono ?_
 ·exact afe
 ·rintro e w (⟨h1,h2,⟨yU,vs',h3⟩,h4,h5⟩ | ⟨h1,h2,h3⟩)
  ·exact ⟨true,_,_,h1,.inl ⟨h2,rfl,rfl⟩,⟨⟨yU,vs',h3⟩,h5,O4 hM1 h4 R.dl aT (iV R.dl hM1.room aT) aT aT (iV R.dl R.ex aT),KM.Rs R.fF h4⟩,O4 hM1 h4 (sH hx) aT (iV (sH hx) hM1.room aT) aT aT (iV (sH hx) R.ex aT)⟩
  ·exact ⟨false,_,_,h1,.inr ⟨h2,rfl,rfl⟩,R.below h3,(h3.block _ (aW (sH hx))).trans (sH hx)⟩
end
def adA {B m r c:Nat} (hM:Mc B m r vr ao c vs now s h l W) (hj:h.job= -1):
  Calls prog 235 #[.pointer (some ⟨m,0,none⟩)] W fun e W'=>e=.returned (.tuple #[J 0,J 0])/\W'=W:=by
 obtain⟨_,m4,_⟩:=hM.cells;rw[hj]at m4;clear hM;go_enter func235,ntmps235;go_wp2_with (go_at_call 275;refine(JC m4).mono ?_;rintro e w' ⟨rfl,rfl⟩)
 go_ret2
 exact⟨rfl,rfl⟩
def adB {B m r c:Nat} (hM:Mc B m r vr ao c vs now s h l W) (hj:h.job≠ -1) (n0:0<=now) (n1:now<=2199023255552)
  (hg:Pr.Good now free rs s) (hf:free<=256) (hn:rs.length*16+4096<=140737488355328) (hB:B<=W.heap.size) (hl:∀x∈l,OkW x) (hc:l.length<=35184372088832) (T X:Int) (hT:atO (aX now s.fr s.rs h.nd)=T) (hX:exO h.nd (aX now s.fr s.rs h.nd)=X) (hX1:X<=1152921504606846976):
  Calls prog 235 #[.pointer (some ⟨m,0,none⟩)] W fun e W'=>e=.returned (.tuple #[J T,J X])/\(∃yU vs',Mc B m r yU ao c vs' now (jC now T s X l) h l W')/\aH (KM B m r W) W W':=by
 have⟨⟨m0,m1,m2,m3⟩,m4,m5,m6,m7⟩:=hM.cells;have r0:=fK 0 hM.room;obtain⟨ra,rc,rfl,hRA⟩:=EX hM.runs;have hsl:s.rs.length*16<=140737488355328:=by exact aob
 have hsh:∀w',Z W w'->Calls prog 158 #[J now,J s.fr,.slice ra s.rs.length rc,J h.nd] w' fun e w''=>e=.returned (.tuple #[J T,J X,.bool (aX now s.fr s.rs h.nd).isSome])/\Z w' w'':=fun w' b=>by have:=Ir (c:=rc) (hRA.below b) hsl now s.fr h.nd;rw[arf,hT,hX]at this;exact this
 have HM:Hid _:=hM;have HG:Hid _:=hg;have HL:Hid _:=hl;clear hM hg hl hT hX hRA hsl;go_enter func235,ntmps235;go_upto_region 3 with(go_at_call 275;refine(EW m4 hj).mono ?_;rintro e w' ⟨rfl,rfl⟩)
 go_cut [2,3] (fun p q wc=>p=J T/\q=J X/\Z w' wc)
 case first=>
  go_region_held3 (fun x'=>x'.cell? ⟨m,0,none⟩=some (J now)/\x'.cell? ⟨m,1,none⟩=some (.pointer (some ⟨r,0,none⟩))/\x'.cell? ⟨r,0,none⟩=some (J s.fr)/\x'.cell? ⟨m,2,none⟩=some (.slice ra s.rs.length rc)/\x'.cell? ⟨m,5,none⟩=some (J h.nd))
   (first | exact⟨m0,m1,r0,m2,m5⟩ | assumption | exact⟨(b2.cell (aU _ _ m0)).trans m0,(b2.cell (aU _ _ m1)).trans m1,(b2.cell (aU _ _ r0)).trans r0,(b2.cell (aU _ _ m2)).trans m2,(b2.cell (aU _ _ m5)).trans m5⟩)
   (first | (go_at_call 158;refine(hsh _ (aN _ 1)).mono ?_;rintro e w5 ⟨rfl,b2⟩))
  all_goals
   go_wp2
   go_meet
   exact⟨rfl,rfl,(aN w' 1).trans b2⟩
 case rest=>
  obtain⟨rfl,rfl,b1⟩:=hcut;have hM1:=HM.out.below b1;have⟨uu,huu⟩:=aZ wc.heap.size;have⟨W2,hW2⟩:=aZ ((wc.alloc (.cells #[J X] 331)).alloc (.cells #[J now,J T] 334));have b2:Z wc W2:=by rw[← hW2];exact((aI _ wc).alloc (aC _) _).alloc dF _
  have hu2:W2.heap[uu]?=some (.cells #[J X] 331 (0,0)):=by rw[← hW2,<-huu];exact(iM _ _ _ dF).trans (aK wc _)
  have hd2:W2.heap[uu+1]?=some (.cells #[J now,J T] 334 (0,0)):=by rw[← hW2,<-huu];have:=aK (wc.alloc (.cells #[J X] 331)) (.cells #[J now,J T] 334);rwa [iI]at this
  have hM2:=hM1.below b2;have MW:Hid (Fl B m r uu ao c now T h l w' s X W2):=⟨⟨_,_,hM2⟩,hu2,hd2,aH.of_below (b1.trans (b2.mono b1.size)) _⟩;obtain⟨⟨y0,y1,y2,y3⟩,_⟩:=hM2.cells;obtain⟨⟨z0,_⟩,_⟩:=hM1.cells;have hur:uu≠r:=by have:=aW hM1.room;omega
  have jS:w'.heap.size<=uu:=by have:=b1.size;omega
  clear hM1 hM2 hu2 hd2 b1 b2 hsh m0 m1 m2 m3 m4 m5 m6 m7 r0 HM;have⟨q,hq⟩:=aZ l.length;rw[hq]at hc y3;have HQ:Hid _:=hq;clear hq;go_wp2;go_loopg [50] q (fun gk p wr=>∃(j:Nat) (s':Ps) (X':Int),j+gk=q/\p=J j/\Fl B m r uu ao c now T h l w' s' X' wr/\jC now T s X l=jC now T s' X' (l.drop j)/\Pr.Good now free rs s'/\X'<=1152921504606846976)
  case atStart=>exact⟨0,s,X,by omega,rfl,MW.out,by simp,HG.out,hX1⟩
  case round=>
   obtain⟨j,s',X',hj2,rfl,hF,hfl,hg',hX'⟩:=hrel;by_cases hlt:j<q
   ·obtain ⟨xx,hr⟩:∃xx,l[j]?=some xx:=⟨_,aY (by have:=HQ.out;omega)⟩
    have HXO:Hid _:=HL.out xx (dW hr);have xo1:=HXO.out.n1;have⟨vr1,vs1,hM'⟩:=hF.mc;have⟨g,o,hga,hcl⟩:=hM'.wait;obtain⟨rfl,cs,hcs⟩:=hga (by have:=HQ.out;omega);have⟨x0,x1,x2⟩:=hcl j xx hr;rw[adz hr]at hfl;have⟨zb,hzb⟩:=aZ wr.heap.size;have⟨W1,hW1⟩:=aZ (wr.alloc (.cells #[J xx.job,J xx.nd,J xx.lm] 200));have b1:Z wr W1:=(by rw[← hW1];exact(aI _ wr).alloc (aC _) _);have Cb:Hid (W1.heap[zb]?=some (wtB xx)):=(by rw[← hW1,<-hzb];exact aK wr _);have HF1:Hid (Fl B m r uu (some ⟨g,o,none⟩) c now T h l w' s' X' W1):=hF.below b1;have hz1:=HF1.out.fF.size;have F7:Hid _:=hg';have Ug:Hid _:=hfl;have kF:∀ {s1:Ps} {X1:Int} {w:ay},Fl B m r uu (some ⟨g,o,none⟩) c now T h l w' s1 X1 w->w.heap[zb]?=some (wtB xx)->w.cell? ⟨zb,0,none⟩=some (J xx.job)/\w.cell? ⟨zb,1,none⟩=some (J xx.nd)/\w.cell? ⟨zb,2,none⟩=some (J xx.lm)/\w.cell? ⟨m,1,none⟩=some (.pointer (some ⟨r,0,none⟩))/\w.cell? ⟨uu+1,0,none⟩=some (J now)/\w.cell? ⟨uu+1,1,none⟩=some (J T):=fun {s1 X1 w} F hb=>by obtain⟨_,_,hM⟩:=F.mc;exact⟨aj hb rfl,aj hb rfl,aj hb rfl,aj hM.blk rfl,aj F.dl rfl,aj F.dl rfl⟩
    have HKF:Hid _:= @kF;have CT:=HF1.out.amE hur F7.out hf hn ak HXO.out n0 n1 Cb.out;have⟨e0,e1,e2,e3,e4,e5⟩:=kF HF1.out Cb.out;clear hM' hF hga hcl hcs hr hfl b1 hg' kF;go_upto_region 8 with fail
    go_cut [65] (fun p wd=>∃b s5,p=.bool (!b)/\(b=true/\(xx.nd<=s'.fr/\now+xx.lm<=T)/\s5=sw now s' xx\/b=false/\¬(xx.nd<=s'.fr/\now+xx.lm<=T)/\s5=s')/\Fl B m r uu (some ⟨g,o,none⟩) c now T h l w' s5 X' wd/\wd.heap[zb]?=some (wtB xx))
    case first=>
     go_region_held3 (fun x'=>x'.cell? ⟨zb,0,none⟩=some (J xx.job)/\x'.cell? ⟨zb,1,none⟩=some (J xx.nd)/\x'.cell? ⟨zb,2,none⟩=some (J xx.lm)/\x'.cell? ⟨m,1,none⟩=some (.pointer (some ⟨r,0,none⟩))/\x'.cell? ⟨uu+1,0,none⟩=some (J now)/\x'.cell? ⟨uu+1,1,none⟩=some (J T))
      (first | exact⟨e0,e1,e2,e3,e4,e5⟩ | exact⟨bK e0 _,bK e1 _,bK e2 _,bK e3 _,bK e4 _,bK e5 _⟩ | assumption | exact z3)
      (first | (go_at_call 276;refine CT.mono ?_;rintro e w5 ⟨b5,s5,rfl,z1,z2,z4⟩;have z3:=HKF.out z2 z4))
     all_goals
      go_wp2
      go_meet
      exact⟨b5,s5,rfl,z1,z2,z4⟩
    case rest=>
     obtain⟨b5,s5,rfl,z1,z2,z4⟩:=hcut;have HF3:Hid _:=z2;have HB3:Hid (wc.heap[zb]?=some (wtB xx)):=z4;clear CT HF1 Cb e0 e1 e2 e3 e4 e5 hW1 hzb z2 z4;rcases z1 with⟨rfl,hok,rfl⟩ | ⟨rfl,hno,rfl⟩
     ·have HF:Hid _:=Ug.out.trans (aJ hok);have HX:Hid (xx.nd<=s'.fr):=hok.1;clear hok;go_wp2;go_roundg (q - (j+1))
      case measure=>omega
      case rel=>exact⟨j+1,sw now s' xx,X',by omega,rfl,HF3.out,HF.out,sD F7.out HX.out ⟨xo1,HXO.out.n2⟩,by omega⟩
     ·have HF:Hid _:=Ug.out.trans (au hno);have hz3:=HF3.out.fF.size;have CT:=HF3.out.aiu hur F7.out hf hn ak HXO.out n0 n1 hX' HB3.out;obtain⟨f0,f1,f2,f3,_⟩:=HKF.out HF3.out HB3.out;clear hno;go_upto_region 9 with fail
      go_region_held3 (fun x'=>x'.cell? ⟨zb,0,none⟩=some (J xx.job)/\x'.cell? ⟨zb,1,none⟩=some (J xx.nd)/\x'.cell? ⟨zb,2,none⟩=some (J xx.lm)/\x'.cell? ⟨m,1,none⟩=some (.pointer (some ⟨r,0,none⟩)))
       (first | exact⟨f0,f1,f2,f3⟩ | exact⟨bK f0 _,bK f1 _,bK f2 _,bK f3 _⟩ | assumption | exact z3)
       (first | (go_at_call 276;refine CT.mono ?_;rintro e w5 ⟨b5,s5,X5,rfl,z1,z2,z4⟩;have z3:w5.cell? ⟨zb,0,none⟩=some (J xx.job)/\w5.cell? ⟨zb,1,none⟩=some (J xx.nd)/\w5.cell? ⟨zb,2,none⟩=some (J xx.lm)/\w5.cell? ⟨m,1,none⟩=some (.pointer (some ⟨r,0,none⟩)):=(have h6:=HKF.out z2 z4;⟨h6.1,h6.2.1,h6.2.2.1,h6.2.2.2.1⟩)))
      all_goals
       have HF6:Hid _:=z2
       have HZ:Hid (jC now T s X l=jC now T s5 X5 (l.drop (j+1))/\Pr.Good now free rs s5/\X5<=1152921504606846976):=by
        rcases z1 with⟨hk,rfl,rfl⟩ | ⟨hk,rfl,rfl⟩
        ·exact ⟨HF.out.trans (aJ hk),sD F7.out hk.1 ⟨xo1,HXO.out.n2⟩,by omega⟩
        ·exact ⟨HF.out.trans (au hk),F7.out,hX'⟩
       clear z1 z2 z3 z4 CT HF3 HB3 f0 f1 f2 f3
       go_wp2
       go_roundg (q - (j+1))
       case measure=>omega
       case rel=>exact⟨j+1,s5,X5,by omega,rfl,HF6.out,HZ.out.1,HZ.out.2.1,HZ.out.2.2⟩
   ·obtain rfl:j=q:=ak;have HF:Hid (jC now T s X l=s'):=by
     rw[hfl,vY (by have:=HQ.out;omega)]
     exact rfl
    have HF6:Hid _:=hF;clear hF hfl hg';go_wp2;go_ret2
    exact⟨rfl,by rw[HF.out];exact HF6.out.mc,HF6.out.fF.mono (fun i hi h=>h.elim id (fun e=>by omega))⟩
end Pq
namespace Pq
open Go.RowKit Pr
def KD (w:ay) (te sz:Nat):(w.alloc (.cells #[] te)).ownsRow w.heap.size te sz (.slice (some ⟨w.heap.size,0,none⟩) 0 0) 0 []:=⟨by simp,.inr ⟨w.heap.size,0,#[],rfl,aC _,aK w _,aC _,by decide,by simp,by simp⟩⟩
def adC {l:List Rn} (hA:eO w ao l) (hn:l.length*16<=140737488355328):
  Calls prog 274 #[.slice ao l.length c] w fun e w'=>∃v,e=.returned v/\w'.ownsRow w.heap.size 108 2 v l.length (fJ l)/\Z w w':=by
 have q23:∀(w:ay) (a:Option Addr) (n c n' c':Nat),(binOp .eql 75 (.slice a n c) (.slice none n' c')).run prog w=.ok (.bool a.isNone) w:=fun w a n c n' c'=>Fj w _ _ a n c n' c' underlying75;have⟨i0,hi0,hz0,hz1,hz2⟩:=fA Tryz.LV;have⟨q,hq⟩:=aZ l.length;have HQ:Hid _:=hq
 cases ao with
 | none=>
  have hl:l= []:=by
   obtain⟨g,o,h,_⟩:=hA
   cases l with
   | nil=>rfl
   | cons x l=>cases h dF
  subst hl;go_enter func274,ntmps274;exact PZ
 | some ad=>
  have hcl:∀j u,(fJ l)[j]?=some u->(w.alloc (.cells #[] 108)).cell? (ad.add j)=some u:=fun j u hu=>by obtain⟨g,o,h1,h2⟩:=hA;have hj:=(bO.1 hu).1;rw[Gw]at hj;obtain rfl:=ji (h1 ak);exact bK (YU h2 j u hu) _
  have F6:Hid _:=hcl;have Ug:Hid _:=Gw l;have HM:Hid _:=KD w 108 2;rw[hq]at hn ⊢;rw[hq]at Ug;clear hcl hA hq;go_enter func274,ntmps274;go_wp2_with (at_builtin;refine JI _ rfl (.tmp 5) (.tmp 6) 75 rfl w.heap.size 108 i0 _ 2 16 underlying75 hi0 hz0 hz1 hz2 rfl aT (.slice (some ⟨w.heap.size,0,none⟩) 0 0) 0 [] rfl HM.out ad q c (fJ l) rfl Ug.out F6.out (ado l) (bM (m:=35184372088832) ak aT) ak dF ?_;intro v' w5 hown hgr _ _)
  go_ret;refine⟨_,rfl,?_,((aI _ w).alloc (aC _) _).grown hgr dF (fun k e=>by cases e;exact aC _)⟩;rw[rJ,pY]at hown;exact hown
def pU:List Wt->List Value
 | []=> []
 | w::l=>J w.job::J w.nd::J w.lm::pU l
def O5 (a b:List Wt):pU (a++b)=pU a++pU b:=by
 induction a with
 | nil=>rfl
 | cons s l ih=>simp[pU,ih]
def VF (l:List Wt):∀j s,l[j]?=some s->(pU l)[j*3]?=some (J s.job)/\(pU l)[j*3+1]?=some (J s.nd)/\(pU l)[j*3+2]?=some (J s.lm):=by
 induction l with
 | nil=>grind
 | cons x l ih=>grind[pU]
def aiv (h:W.ownsRow B 200 3 v l.length (pU l)):∃ra rc,v=.slice ra l.length rc/\Dy W ra l/\l.length<=rc/\rc<=maxLen:=by
 rcases h.2 with⟨rfl,h0⟩ | ⟨g,cap,cur,rfl,hb,hg,hc1,hc2,_,ht⟩
 ·refine ⟨none,0,by grind,⟨0,0,fun h=>by omega,fun j s hs=>?_⟩,by omega,by decide⟩;grind
 ·refine ⟨some ⟨g,0,none⟩,cap,rfl,⟨g,0,fun _=>⟨rfl,cur,hg⟩,fun j s hs=>?_⟩,hc1,hc2⟩;have⟨h1,h2,h3⟩:=VF l j s hs;grind[aj]
def Tryz.arh:(prog.info? 200).map (fun i=>(i.zero,i.size,i.bytes))=some (some (.agg #[J 0,J 0,J 0]),3,24):=aF
structure Mn (B m r:Nat) (vr vw:Value) (now free:Int) (rs:List Rn) (h:Wt) (l:List Wt) (W:ay):Prop where
 blk:W.heap[m]?=some (.cells #[J now,.pointer (some ⟨r,0,none⟩),vr,vw,J h.job,J h.nd,J h.lm,.slice none 0 0] 301 (0,0))
 room:W.heap[r]?=some (.cells #[J free] 331 (0,0))
 runs:W.ownsRow B 108 2 vr rs.length (fJ rs)
 wait:W.ownsRow B 200 3 vw l.length (pU l)
 lo:B<=m/\B<=r
section
variable {B m r:Nat} {vr vw:Value} {now free:Int} {rs:List Rn} {h:Wt} {l:List Wt} {W W':ay}
def Mn.keep (hM:Mn B m r vr vw now free rs h l W) (hk:∀(i:Nat) (cs:Array Value) (t:TypeId),W.heap[i]?=some (.cells cs t (0,0))->W'.heap[i]?=W.heap[i]?):Mn B m r vr vw now free rs h l W':=
 ⟨(hk _ _ _ hM.blk).trans hM.blk,(hk _ _ _ hM.room).trans hM.room,
  iK hM.runs (fun k e=>by obtain⟨_,cs,h⟩:=gI hM.runs e;grind),
  iK hM.wait (fun k e=>by obtain⟨_,cs,h⟩:=gI hM.wait e;grind),hM.lo⟩
theorem Mn.below (hM:Mn B m r vr vw now free rs h l W) (b:Z W W'):Mn B m r vr vw now free rs h l W':=hM.keep (fun i _ _ hi=>b.block i (aW hi))
def Mn.hold (hM:Mn B m r vr vw now free rs h l W) (x:Wt):Mn B m r vr vw now free rs x l (((W.setCell ⟨m,4,none⟩ (J x.job)).setCell ⟨m,5,none⟩ (J x.nd)).setCell ⟨m,6,none⟩ (J x.lm)):=by
 have e1:=bS W m 4 _ 301 (J x.job) hM.blk;have e2:=bS _ m 5 _ 301 (J x.nd) e1;have e3:=bS _ m 6 _ 301 (J x.lm) e2;have kp:∀(i:Nat) (cs:Array Value) (t:TypeId),t≠301->W.heap[i]?=some (.cells cs t (0,0))->(((W.setCell ⟨m,4,none⟩ (J x.job)).setCell ⟨m,5,none⟩ (J x.nd)).setCell ⟨m,6,none⟩ (J x.lm)).heap[i]?=W.heap[i]?:=by grind[World.setCell]
 exact⟨e3,(kp _ _ _ aT hM.room).trans hM.room,iK hM.runs (fun k e=>by obtain⟨_,cs,hk⟩:=gI hM.runs e;grind),iK hM.wait (fun k e=>by obtain⟨_,cs,hk⟩:=gI hM.wait e;grind),hM.lo⟩
def Mn.more {w1:ay} {gg cap:Nat} {o:Obj} {x:Wt} (hM:Mn B m r vr vw now free rs h l W)
  (hown:w1.ownsRow B 200 3 (.slice (some ⟨gg,0,none⟩) (l.length+1) cap) (l.length+1) (pU l++ [J x.job,J x.nd,J x.lm])) (hg:(W.drew.alloc o).grownBy w1 vw.ownBlock):
  Mn B m r vr (.slice (some ⟨gg,0,none⟩) (l.length+1) cap) now free rs h (l++ [x]) (w1.setCell ⟨m,3,none⟩ (.slice (some ⟨gg,0,none⟩) (l.length+1) cap))/\w1.cell? ⟨m,3,none⟩=some vw/\w1.frozen? ⟨m,3,none⟩=false:=by
 have kp:∀(i:Nat) (cs:Array Value) (t:TypeId),t≠200->W.heap[i]?=some (.cells cs t (0,0))->w1.heap[i]?=W.heap[i]?:=fun i cs t ht hi=>by have e1:(W.drew.alloc o).heap[i]?=W.heap[i]?:=iM _ _ _ (aW hi);refine(hg.block i (aW (e1.trans hi)) (fun e=>?_)).trans e1;obtain⟨_,cs',hk⟩:=gI hM.wait e.symm;exact iV hi hk ht rfl
 have bm:=(kp m _ 301 aT hM.blk).trans hM.blk;have hgm:gg≠m:=by obtain⟨_,cs',hk⟩:=gI hown (k:=gg) rfl;exact iV hk bm aT
 have kp2:∀(i:Nat) (cs:Array Value) (t:TypeId),t≠200->t≠301->W.heap[i]?=some (.cells cs t (0,0))->(w1.setCell ⟨m,3,none⟩ (.slice (some ⟨gg,0,none⟩) (l.length+1) cap)).heap[i]?=W.heap[i]?:=fun i cs t ht1 ht2 hi=>(gy _ _ _ _ (iV hi hM.blk ht2)).trans (kp i cs t ht1 hi);refine⟨⟨bS w1 m 3 _ 301 _ bm,(kp2 _ _ _ aT aT hM.room).trans hM.room,?_,?_,hM.lo⟩,aj bm rfl,aD bm⟩
 ·exact iK hM.runs (fun k e=>by obtain⟨_,cs,hk⟩:=gI hM.runs e;exact kp2 k cs 108 aT aT hk)
 ·rw[tC,O5];exact iK hown (fun k e=>gy _ _ _ _ (by
   have:gg=k:=by simpa [Value.ownBlock]using e
   simp only
   omega))
end
def O7 (ho:Int):∀(l:List Wt) (h x:Wt),dX ho h (l++ [x])=if x.job=ho then x else dX ho h l:=by
 intro l;induction l with
 | nil=>intro h x;simp[dX]
 | cons w l ih=>grind[dX]
def VG (ho:Int) (l:List Wt) (x:Wt):gQ ho (l++ [x])=if x.job=ho then gQ ho l else gQ ho l++ [x]:=by
 grind[gQ]
end Pq
namespace Pq
open Go.RowKit Pr
def VH {ao wo:Option Addr} {ws:List Wt} {c cw:Nat} (hA:eO w ao rs) (hn:rs.length*16<=140737488355328) (hW:kK w wo ws) (hnw:ws.length*24<=140737490000000) (now free ho:Int):
  Calls prog 232 #[J now,J free,.slice wo ws.length cw,J ho,.slice ao rs.length c] w fun e w'=>∃m r vr Da c',e=.returned (.pointer (some ⟨m,0,none⟩))/\
   Mc w.heap.size m r vr Da c' (.slice none 0 0) now ⟨free,rs,[]⟩ (dX ho noW ws) (gQ ho ws) w'/\Z w w'/\(gQ ho ws).length<=c'/\c'<=maxLen:=by
 have⟨W0,hW0⟩:=aZ (w.alloc (.cells #[J free] 331));have b0:Z w W0:=by rw[← hW0];exact(aI _ w).alloc (aC _) _
 have hz0:W0.heap.size=w.heap.size+1:=by rw[← hW0];simp
 have hr0:W0.heap[w.heap.size]?=some (.cells #[J free] 331 (0,0)):=by rw[← hW0];exact aK w _
 have hcl:=adC (c:=c) (hA.below b0) hn;have⟨q,hq⟩:=aZ ws.length;have HQ:Hid _:=hq;rw[hq]at hnw ⊢;have HW:Hid _:=hW;have HR0:Hid _:=hr0;clear hq hA hW hr0;go_enter func232,ntmps232;go_wp2_with fail
 refine hcl.mono ?_;rintro e w1 ⟨v,rfl,hrow,b1⟩;obtain⟨ra,rc,rfl,_⟩:=EX hrow;have⟨m,hm⟩:=aZ w1.heap.size;have⟨W2,hW2⟩:=aZ (w1.alloc (.cells #[J now,.pointer (some ⟨w.heap.size,0,none⟩),.slice ra rs.length rc,.slice none 0 0,J (-1),J 0,J 0,.slice none 0 0] 301));have b2:Z w1 W2:=by rw[← hW2];exact(aI _ w1).alloc (aC _) _
 have hzz:=b1.size;have hM0:Mn w.heap.size m w.heap.size (.slice ra rs.length rc) (.slice none 0 0) now free rs noW [] W2:=by
  refine⟨?_,(b2.block _ ak).trans ((b1.block _ ak).trans HR0.out),?_,l8 _ _ _ _,by omega,aC _⟩
  ·rw[← hW2,<-hm];exact aK w1 _
  ·exact iL (iK hrow (fun k e=>b2.block k (by obtain⟨_,cs,hk⟩:=gI hrow e;exact aW hk))) ak
 have B2:=b0.trans ((b1.mono ak).trans (b2.mono ak));have yJ:Hid _:=hM0;have HB2:Hid _:=B2;have hmw:w.heap.size<=m:=ak;clear hM0 B2 b0 b1 b2 hrow hcl HR0 hzz;go_wp2_with fail
 go_loopg [25] q (fun gk p wr=>∃(j:Nat) (vw:Value),j+gk=q/\p=J j/\Mn w.heap.size m w.heap.size (.slice ra rs.length rc) vw now free rs (dX ho noW (ws.take j)) (gQ ho (ws.take j)) wr/\Z w wr)
 case atStart=>exact⟨0,.slice none 0 0,by omega,rfl,yJ.out,HB2.out⟩
 case round=>
  clear yJ HB2 hW2 hm hz0 hW0;obtain⟨j,vw,hj,rfl,hM,hB⟩:=hrel;by_cases hlt:j<q
  ·obtain ⟨x,hr⟩:∃x,ws[j]?=some x:=⟨_,aY (by have:=HQ.out;omega)⟩
   have⟨g,o,hga,hcl⟩:=HW.out;obtain rfl:=hga (by have:=HQ.out;omega);have⟨x0,x1,x2⟩:=hcl j x hr;replace x0:=(hB.cell (aU _ _ x0)).trans x0;replace x1:=(hB.cell (aU _ _ x1)).trans x1;replace x2:=(hB.cell (aU _ _ x2)).trans x2;have hsn:ws.take (j+1)=ws.take j++ [x]:=(by rw[kT,hr];rfl);have hol:(gQ ho (ws.take j)).length<=j:=(by have e1:=SI (fun w:Wt=>decide (w.job≠ho)) (ws.take j);have e2:=List.length_take_le j ws;unfold gQ;omega);have⟨zb,hzb⟩:=aZ wr.heap.size;have⟨W1,hW1⟩:=aZ (wr.alloc (.cells #[J x.job,J x.nd,J x.lm] 200));have b1:Z wr W1:=(by rw[← hW1];exact(aI _ wr).alloc (aC _) _);have hbx:W1.heap[zb]?=some (.cells #[J x.job,J x.nd,J x.lm] 200 (0,0)):=(by rw[← hW1,<-hzb];exact aK wr _);have hM1:=hM.below b1;have hwz:∀k,vw.ownBlock=some k->k<zb:=fun k e=>by obtain⟨_,cs,hk⟩:=gI hM.wait e;have:=aW hk;omega
   have hmz:=aW hM1.blk;have hzz:=aW hbx;have e0:=fK 0 hbx;have e1:=fK 1 hbx;have e2:=fK 2 hbx;have m3:=fK 3 hM1.blk;have m4:=aj hM1.blk (k:=4) rfl;have m5:=aj hM1.blk (k:=5) rfl;have m6:=aj hM1.blk (k:=6) rfl;have f4:=aD hM1.blk (k:=4);have f5:=aD hM1.blk (k:=5);have f6:=aD hM1.blk (k:=6);have hB1:=hB.trans (b1.mono hB.size);have Bu:Hid _:=hM1;have HB1:Hid _:=hB1;have Cb:Hid _:=hbx;have HSN:Hid _:=hsn;clear hM hB hM1 hB1 hbx hcl hga hr hsn b1;by_cases hx:x.job=ho
   ·have HO:Hid (gQ ho (ws.take j++ [x])=gQ ho (ws.take j)):=(VG ho _ x).trans (aJ hx);have HH:Hid (dX ho noW (ws.take j++ [x])=x):=(O7 ho _ noW x).trans (aJ hx);generalize gQ ho (ws.take j)=L at *;generalize dX ho noW (ws.take j)=hh at *;have⟨xj,hxj⟩:=aZ x.job;have HXJ:Hid _:=hxj;rw[hxj]at hx x0 e0 hW1;subst hx;clear hxj Cb;go_wp2;go_roundg (q - (j+1))
    case measure=>omega
    case rel=>have hh2:=Bu.out.hold x;rw[HXJ.out]at hh2;refine⟨j+1,vw,by omega,rfl,?_,((HB1.out.setCell fE _).setCell fE _).setCell fE _⟩;rw[HSN.out,HO.out,HH.out];exact hh2
   ·have HO:Hid (gQ ho (ws.take j++ [x])=gQ ho (ws.take j)++ [x]):=(VG ho _ x).trans (au hx);have HH:Hid (dX ho noW (ws.take j++ [x])=dX ho noW (ws.take j)):=(O7 ho _ noW x).trans (au hx);generalize gQ ho (ws.take j)=L at *;generalize dX ho noW (ws.take j)=hh at *;have⟨i0,hi0,hy0,hy1,hy2⟩:=fA Tryz.arh;have amF:=Bu.out.wait;have ag1:vw.ownBlock≠some m:=fun e=>by obtain⟨_,cs,hk⟩:=gI amF e;exact iV hk Bu.out.blk aT rfl
    have ag2:vw.ownBlock≠some zb:=fun e=>by have:=hwz zb e;omega
    have hBs:=HB1.out.size;clear m4 m5 m6 f4 f5 f6;go_upto_region 7 with fail
    refine aG (S:=fun x'=>x'.cell? ⟨zb,0,none⟩=some (J x.job)/\x'.cell? ⟨zb,1,none⟩=some (J x.nd)/\x'.cell? ⟨zb,2,none⟩=some (J x.lm)/\x'.cell? ⟨m,3,none⟩=some vw) (L:=10) aF ?_;have oQ:(fun x':World=>x'.cell? ⟨zb,0,none⟩=some (J x.job)/\x'.cell? ⟨zb,1,none⟩=some (J x.nd)/\x'.cell? ⟨zb,2,none⟩=some (J x.lm)/\x'.cell? ⟨m,3,none⟩=some vw) W1.drew:=⟨e0,e1,e2,m3⟩;refine bU (i:=0) (v:=?v0) rfl aF aF aF aF rfl (fun _ _ _ h=>h) iW oQ ?hy0 ?aum
    case hy0=>exact FE
    simp only[Act.put,jO,jX,jg];refine bU (i:=1) (v:=?v1) rfl aF aF aF aF rfl (fun _ _ _ h=>h) iW oQ ?hy1 ?aun
    case hy1=>exact FE
    simp only[Act.put,jO,jX,jg];refine bU (i:=2) (v:=?v2) rfl aF aF aF aF rfl (fun _ _ _ h=>h) iW oQ ?hy2 ?auo
    case hy2=>exact FE
    simp only[Act.put,jO,jX,jg];refine bU (i:=3) (v:=?v3) rfl aF aF aF aF rfl (fun _ _ _ h=>h) iW oQ ?hy3 ?aup
    case hy3=>exact FE
    simp only[Act.put,jO,jX,jg];refine bU (i:=4) (v:=?v4) rfl aF aF aF aF rfl (fun _ _ _ h=>h) iW oQ ?hy4 ?auq
    case hy4=>exact FE
    simp only[Act.put,jO,jX,jg];refine bU (i:=5) (v:=?v5) rfl aF aF aF aF rfl (fun _ _ _ h=>h) iW oQ ?hy5 ?aur
    case hy5=>exact FE
    simp only[Act.put,jO,jX,jg];refine last_one (i:=6) aF rfl ?_;intro K1 hK1;go_simp;have uW:(fun x':World=>x'.cell? ⟨zb,0,none⟩=some (J x.job)/\x'.cell? ⟨zb,1,none⟩=some (J x.nd)/\x'.cell? ⟨zb,2,none⟩=some (J x.lm)/\x'.cell? ⟨m,3,none⟩=some vw) (W1.drew.alloc (.cells #[J x.job,J x.nd,J x.lm] 200)):=⟨bK e0 _,bK e1 _,bK e2 _,bK m3 _⟩;refine jE hK1 uW ?_;clear hK1 K1;refine last_one (i:=7) aF rfl ?_;intro K2 hK2;refine GA iW _ _ _ iW w.heap.size 200 i0 _ 3 24 underlying244 hi0 hy0 hy1 hy2 rfl ak vw L.length (pU L) iW (Cv (w:=W1.drew) amF _) ⟨W1.heap.size,0,none⟩ 1 1 [J x.job,J x.nd,J x.lm] iW iW (vI (cs:= #[J x.job,J x.nd,J x.lm]) (t:=200) (fr:=(0,0)) (aK W1.drew _)) Ci ak (bM (m:=35184372088832) ak aT) ak fE ?_;intro gg cap w5 hown1 hgrow;have⟨z1,z3,z4⟩:=Bu.out.more hown1 hgrow;have HS2:(fun x':World=>x'.cell? ⟨zb,0,none⟩=some (J x.job)/\x'.cell? ⟨zb,1,none⟩=some (J x.nd)/\x'.cell? ⟨zb,2,none⟩=some (J x.lm)/\x'.cell? ⟨m,3,none⟩=some vw) w5:=⟨(hgrow.cell_far _ fE (iN ag2)).trans uW.1,(hgrow.cell_far _ fE (iN ag2)).trans uW.2.1,(hgrow.cell_far _ fE (iN ag2)).trans uW.2.2.1,z3⟩;have hB5:=((BN HB1.out).alloc hBs _).grown hgrow fE (fun k e=>by obtain⟨hk,_⟩:=gI amF e;exact hk);have Z1:Hid _:=z1;have ZB:Hid _:=hB5;refine jE hK2 HS2 ?_;clear hK2 K2 z1 hown1 hgrow uW oQ hB5;refine last_one (i:=8) aF rfl ?_;intro K9 hK9;go_simp;refine jE hK9 HS2 ?_;clear hK9 K9;refine last_one (i:=9) aF rfl ?_;intro K9 hK9;go_simp;refine jE hK9 HS2 ?_;clear hK9 K9;refine last_one (i:=10) aF rfl ?_;intro K3 hK3;go_simp;refine hK3.out _ _ (fun h=>absurd rfl h) (fun _=>?_);clear hK3 K3;refine aO aF ?_ _;clear HS2 z3 z4 e0 e1 e2 m3 amF hW1;go_wp2;go_roundg (q - (j+1))
    case measure=>omega
    case rel=>refine⟨j+1,.slice (some ⟨gg,0,none⟩) (L.length+1) cap,by omega,rfl,?_,ZB.out.setCell fE _⟩;rw[HSN.out,HO.out,HH.out];exact Z1.out
  ·obtain rfl:j=q:=ak;rw[xH (by have:=HQ.out;omega)]at hM;obtain⟨ra2,rc2,rfl,hwa,hc1,hc2⟩:=aiv hM.wait;have hfin:Mc w.heap.size m w.heap.size (.slice ra rs.length rc) ra2 rc2 (.slice none 0 0) now ⟨free,rs,[]⟩ (dX ho noW ws) (gQ ho ws) wr:=
    ⟨hM.blk,hM.room,hM.runs,l8 _ _ _ _,hwa,hM.lo⟩
   have HF:Hid _:=hfin;have HB:Hid _:=hB;clear hM hwa hfin hB HW;go_wp2;go_ret;exact⟨_,_,_,_,_,rfl,HF.out,HB.out,hc1,hc2⟩
end Pq
namespace Pq
open Go.RowKit Pr
def I7 {B m r c:Nat} (hM:Mc B m r vr ao c vs now s h l W) (ho:h.job≠ -1->OkW h) (n0:0<=now) (n1:now<=2199023255552)
  (hg:Pr.Good now free rs s) (hf:free<=256) (hn:rs.length*16+4096<=140737488355328) (hB:B<=W.heap.size):
  Calls prog 233 #[.pointer (some ⟨m,0,none⟩)] W fun e W'=>e=.returned (.tuple #[])/\(∃yU vs',Mc B m r yU ao c vs' now (gD now s h).1 (gD now s h).2 l W')/\aH (KM B m r W) W W':=by
 unfold gD;by_cases hj:h.job= -1
 ·rw[au (fun e=>e.1 hj)];refine(Gz hM hj).mono ?_;exact afh
 ·by_cases hx:h.nd<=s.fr
  ·rw[aJ ⟨hj,hx⟩];exact I6 hM (ho hj) hx n0 n1 hg hf hn hB
  ·rw[au (fun e=>hx e.2)];refine(LW hM hj ak).mono ?_;exact afh
def adD (hg:Pr.Good now free rs s) (ho:h.job≠ -1->OkW h):Pr.Good now free rs (gD now s h).1:=by
 grind[gD,sD,OkW.n1,OkW.n2]
def aiw (hg:Pr.Good now free rs s) (hl:∀x∈l,OkW x):
  Pr.Good now free rs (kQ now s h l).1/\(∀x∈(kQ now s h l).2.2,x∈l)/\((kQ now s h l).2.1=h\/(kQ now s h l).2.1=noW\/(kQ now s h l).2.1∈l):=by
 unfold kQ;by_cases hj:h.job≠ -1
 ·grind
 ·rw[au hj];obtain⟨g,a,h1,_,_⟩:=Bj l s hg (fun x hx=>⟨(hl x hx).n1,(hl x hx).n2⟩);grind
def Rt {now free need:Int} {l:List Rn} (hl:l.length*16<=140737488355328) (hn:0<=need):exO need (aX now free l need)<=1152921504606846976:=by
 cases hs:aX now free l need with
 | none=>simp[exO]
 | some s=>obtain⟨_,h2⟩:=jT hs;obtain⟨hr,_⟩:=sj hs;have⟨⟨f0,f1⟩,hok⟩:=fP.1 hr;have:=KY l s.at_ hok free f0;grind[exO]
def aix {B m r c:Nat} (hM:Mc B m r vr ao c vs now s h l W) (ho:h.job≠ -1->OkW h) (n0:0<=now) (n1:now<=2199023255552)
  (hg:Pr.Good now free rs s) (hf:free<=256) (hn:rs.length*16+4096<=140737488355328) (hB:B<=W.heap.size) (hl:∀x∈l,OkW x) (hc:l.length<=35184372088832):
  Calls prog 235 #[.pointer (some ⟨m,0,none⟩)] W fun e W'=>e=.returned (.tuple #[J (endP now s h l).sh,J (endP now s h l).ex])/\(∃yU vs',Mc B m r yU ao c vs' now (Gm now s h l) h l W')/\aH (KM B m r W) W W':=by
 unfold endP Gm;by_cases hj:h.job= -1
 ·rw[aJ hj,aJ hj];refine(adA hM hj).mono ?_;rintro e W' ⟨rfl,rfl⟩;exact⟨rfl,⟨_,_,hM⟩,aH.refl _ _⟩
 ·rw[au hj,au hj];refine adB hM hj n0 n1 hg hf hn hB hl hc _ _ rfl rfl (Rt ?_ (by have:=(ho hj).n1;omega));exact aob
def ari (now:Int) (s:Ps) (h:Wt) (l:List Wt):(endP now s h l).ho=h.job/\(endP now s h l).st=(Gm now s h l).st.map Wt.job:=by
 grind[endP,Gm]
def aiy (l:List Int):List Value:=l.map (Value.int .i64)
def adE (l:List Wt):EP l=aiy (l.map Wt.job):=by simp[EP,aiy]
def aiz (v:Value) (p:Pln):Value:=.agg #[v,J p.ho,J p.sh,J p.ex]
def aiA {B e sz n:Nat} {vs:List Value} (h:W.ownsRow B e sz v n vs):∃a c,v=.slice a n c:=by
 rcases h.2 with⟨rfl,h0⟩ | ⟨g,cap,cur,rfl,_⟩
 ·grind
 grind
def ah4 {b:Nat} {a0 a1 a2 a3 v0 v1 v2 v3:Value} (h:W.heap[b]?=some (.cells #[a0,a1,a2,a3] 248 (0,0))):
  ((((W.setCell ⟨b,0,none⟩ v0).setCell ⟨b,1,none⟩ v1).setCell ⟨b,2,none⟩ v2).setCell ⟨b,3,none⟩ v3).heap[b]?=some (.cells #[v0,v1,v2,v3] 248 (0,0)):=
 bS _ b 3 _ 248 v3 (bS _ b 2 _ 248 v2 (bS _ b 1 _ 248 v1 (bS W b 0 _ 248 v0 h)))
def arj {b:Nat} {v0 v1 v2 v3:Value} (h:Below B w W) (hb:B<=b):Below B w ((((W.setCell ⟨b,0,none⟩ v0).setCell ⟨b,1,none⟩ v1).setCell ⟨b,2,none⟩ v2).setCell ⟨b,3,none⟩ v3):=
 (((h.setCell (p:=⟨b,0,none⟩) hb v0).setCell (p:=⟨b,1,none⟩) hb v1).setCell (p:=⟨b,2,none⟩) hb v2).setCell (p:=⟨b,3,none⟩) hb v3
def aiB {ao wo:Option Addr} {ws:List Wt} {c cw:Nat} (hA:eO w ao rs) (hn:rs.length*16+4096<=140737488355328) (hW:kK w wo ws) (hnw:ws.length*24<=140737490000000) (hwf:∀x∈ws, -9223372036854775808<=x.job/\x.job<=9223372036854775807) (now free ho:Int)
  (hc:Vl now free ws ho rs=true):
  Calls prog 192 #[J now,J free,.slice wo ws.length cw,J ho,.slice ao rs.length c] w fun e w'=>
   ∃v,e=.returned (.tuple #[aiz v (jK now free ws ho rs),J 0])/\w'.ownsRow w.heap.size 3 1 v (jK now free ws ho rs).st.length (aiy (jK now free ws ho rs).st)/\Z w w':=by
 have⟨W0,hW0⟩:=aZ (w.alloc (.cells #[.slice none 0 0,J 0,J 0,J 0] 248));have b0:Z w W0:=by rw[← hW0];exact(aI _ w).alloc (aC _) _
 have hr0:W0.heap[w.heap.size]?=some (.cells #[.slice none 0 0,J 0,J 0,J 0] 248 (0,0)):=by rw[← hW0];exact aK w _
 have hk:=aaM.1 hc;have hz:=aW hr0;have HR0:Hid _:=hr0;unfold Vl at hc;rw[lW,lW]at hc;obtain⟨h1,h2,h3⟩:=hc;have C1:=YH (c:=c) (hA.below b0) ak h1;have⟨⟨f0,f1⟩,hok⟩:=fP.1 hk.rt;have C2:∀w',Z W0 w'->Calls prog 230 #[.slice ao rs.length c] w' fun e w''=>e=.returned (J (fG rs))/\Z w' w'':=fun w' b=>ac_ (hA.below (b0.trans (b.mono ak))) ak hok;have C3:∀w',Z W0 w'->Calls prog 229 #[.slice wo ws.length cw,J (free+fG rs)] w' fun e w''=>e=.returned (.bool true)/\Z w' w'':=fun w' b=>Vk (hW.below (b0.trans (b.mono ak))) hnw hwf (free+fG rs) h2;have C4:∀w',Z W0 w'->Calls prog 231 #[J ho,.slice wo ws.length cw] w' fun e w''=>e=.returned (.bool true)/\Z w' w'':=fun w' b=>Vj (hW.below (b0.trans (b.mono ak))) hnw h3;have C5:∀w',Z W0 w'->Calls prog 232 #[J now,J free,.slice wo ws.length cw,J ho,.slice ao rs.length c] w' fun e w''=>∃m r vr Da c',e=.returned (.pointer (some ⟨m,0,none⟩))/\
   Mc w'.heap.size m r vr Da c' (.slice none 0 0) now ⟨free,rs,[]⟩ (dX ho noW ws) (gQ ho ws) w''/\Z w' w''/\(gQ ho ws).length<=c'/\c'<=maxLen:=
  fun w' b=>VH (hA.below (b0.trans (b.mono ak))) ak (hW.below (b0.trans (b.mono ak))) hnw now free ho
 have hsb:=qx hok;have s0:=hsb.1;have s1:=hsb.2;have n0:=hk.n0;have n1:=hk.n1;have hOk:∀x∈ws,OkW x:=fun x hx=>by have:=hk.wt x hx;exact⟨by omega,by omega,by omega,by omega,by omega⟩
 have avu:∀x∈gQ ho ws,OkW x:=fun x hx=>hOk x (xJ.1 hx).1;have hHo:∀h,(h=noW\/h∈ws)->h.job≠ -1->OkW h:=fun h hh hj=>hh.elim (fun e=>by rw[e]at hj;exact absurd rfl hj) (fun e=>hOk h e);have hHn:∀h,(h=noW\/h∈ws)->h.job= -1->h=noW:=fun h hh hj=>hh.elim id (fun e=>by have:=(hOk h e).j;omega);have hol:(gQ ho ws).length<=ws.length:=SI _ _;have G0:Pr.Good now free rs ⟨free,rs,[]⟩:=ahQ f0;have HC:Hid _:=YI ho ws noW;have Sn:Hid _:=hOk;have HOT:Hid _:=avu;have HHO:Hid _:=hHo;have HHN:Hid _:=hHn;have HG0:Hid _:=G0;clear hr0 hsb hk hok h1 h2 h3 hwf hA hW hOk avu hHo hHn G0;go_enter func192,ntmps192;go_upto_region 4 with(first
  | (go_at_call 228;refine C1.mono ?_;rintro e w1 ⟨rfl,b1⟩)
  | (go_at_call 230;refine(C2 _ b1).mono ?_;rintro e w2 ⟨rfl,b2⟩;have B2:=b1.trans (b2.mono b1.size))
  | (go_at_call 229;refine(C3 _ B2).mono ?_;rintro e w3 ⟨rfl,b3⟩;have B3:=B2.trans (b3.mono B2.size))
  | (go_at_call 231;refine(C4 _ B3).mono ?_;rintro e w4 ⟨rfl,b4⟩;have B4:=B3.trans (b4.mono B3.size))
  | (go_at_call 232;refine(C5 _ B4).mono ?_;rintro e w5 ⟨m,r,vr,Da,c',rfl,hM5,b5,hc5,hd5⟩))
 have hBz:=b5.size;have BB:=b0.trans (B4.mono ak);have hwz:=B4.size;have HR4:Hid _:=(B4.block _ (aW HR0.out)).trans HR0.out;have BO:Hid _:=BB;have Ya:Hid _:=b5;have IZ:Hid _:=hM5;clear C1 C2 C3 C4 C5 b0 b1 b2 b3 b4 B2 B3 B4 b5 BB hM5 HR0 hW0;have D1:=I7 IZ.out (HHO.out _ HC.out) n0 n1 HG0.out f1 hn hBz;go_upto_region 5 with(go_at_call 233;refine D1.mono ?_;rintro e w6 ⟨rfl,⟨vr6,vs6,Sy⟩,hC6⟩)
 have G6:=adD (now:=now) (s:=⟨free,rs,[]⟩) HG0.out (HHO.out _ HC.out);have H6:(gD now ⟨free,rs,[]⟩ (dX ho noW ws)).2=noW\/(gD now ⟨free,rs,[]⟩ (dX ho noW ws)).2∈ws:=by
  unfold gD;by_cases hcc:(dX ho noW ws).job≠ -1/\(dX ho noW ws).nd<=(Ps.mk free rs []).fr
  ·rw[aJ hcc];exact .inl rfl
  ·rw[au hcc];exact HC.out
 have hz6:=hC6.size;have D2:=Dz Sy n0 n1 G6 f1 hn ak (HHN.out _ H6) HOT.out hc5 hd5;have Ni:Hid _:=Sy;have HC6:Hid _:=hC6;clear D1 Sy hC6 hd5;go_upto_region 6 with(go_at_call 234;refine D2.mono ?_;rintro e w7 ⟨rfl,⟨vr7,ao7,c7,vs7,hM7⟩,hC7⟩)
 have⟨G7,l7,h7⟩:=aiw (h:=(gD now ⟨free,rs,[]⟩ (dX ho noW ws)).2) G6 HOT.out;have H7:(kQ now (gD now ⟨free,rs,[]⟩ (dX ho noW ws)).1 (gD now ⟨free,rs,[]⟩ (dX ho noW ws)).2 (gQ ho ws)).2.1=noW\/(kQ now (gD now ⟨free,rs,[]⟩ (dX ho noW ws)).1 (gD now ⟨free,rs,[]⟩ (dX ho noW ws)).2 (gQ ho ws)).2.1∈ws:=by
  rcases h7 with e | e | e
  ·rw[e];exact H6
  ·exact .inl e
  ·exact .inr (xJ.1 e).1
 have hl7:(kQ now (gD now ⟨free,rs,[]⟩ (dX ho noW ws)).1 (gD now ⟨free,rs,[]⟩ (dX ho noW ws)).2 (gQ ho ws)).2.2.length<=35184372088832:=by
  have e1:∀(s:Ps) (l:List Wt),(iZ now s l).2.length<=l.length:=by
   intro s l;induction l generalizing s with
   | nil=>simp[iZ]
   | cons x l ih=>simp only[iZ];split;(have:=ih (sw now s x);simp only[dK];omega);simp
  have e2:∀(s:Ps) (h:Wt) (l:List Wt),(kQ now s h l).2.2.length<=l.length:=by
   intro s h l;unfold kQ;have:=e1 s l;split
   ·exact aC _
   ·split
    ·simp
    ·rename_i w2 l2 hq;rw[hq]at this;simp only[dK]at this;show l2.length<=_;omega
  have:=e2 (gD now ⟨free,rs,[]⟩ (dX ho noW ws)).1 (gD now ⟨free,rs,[]⟩ (dX ho noW ws)).2 (gQ ho ws);omega
 have hz7:=hC7.size;have HPV:Hid (jK now free ws ho rs=endP now (kQ now (gD now ⟨free,rs,[]⟩ (dX ho noW ws)).1 (gD now ⟨free,rs,[]⟩ (dX ho noW ws)).2 (gQ ho ws)).1 (kQ now (gD now ⟨free,rs,[]⟩ (dX ho noW ws)).1 (gD now ⟨free,rs,[]⟩ (dX ho noW ws)).2 (gQ ho ws)).2.1 (kQ now (gD now ⟨free,rs,[]⟩ (dX ho noW ws)).1 (gD now ⟨free,rs,[]⟩ (dX ho noW ws)).2 (gQ ho ws)).2.2):=rfl;generalize kQ now (gD now ⟨free,rs,[]⟩ (dX ho noW ws)).1 (gD now ⟨free,rs,[]⟩ (dX ho noW ws)).2 (gQ ho ws)=P at *;obtain⟨s7,hh7,ll7⟩:=P;simp only at hM7 G7 l7 H7 hl7 HPV;have D3:=aix hM7 (HHO.out _ H7) n0 n1 G7 f1 hn ak (fun x hx=>HOT.out x (l7 x hx)) hl7;have⟨E1,E2⟩:=ari now s7 hh7 ll7;rw[← HPV.out]at D3 E1 E2;have HC7:Hid _:=hC7;have WR:Hid _:=E1;have HE2:Hid _:=E2;clear D2 hM7 hC7 HPV G6 G7 H6 H7 h7 l7 hl7 Ni HG0 HHO HHN HOT Sn HC E1 E2 hol hc5;generalize avv:jK now free ws ho rs=PV at *;have HPE:Hid _:=avv;clear avv;go_upto_region 7 with(go_at_call 235;refine D3.mono ?_;rintro e w8 ⟨rfl,⟨vr8,vs8,hM8⟩,hC8⟩)
 obtain⟨sa,sc,rfl⟩:=aiA hM8.starts;have m4:=aj hM8.blk (k:=4) rfl;have m7:=aj hM8.blk (k:=7) rfl;have hz8:=hC8.size;have CC:=KM.trans HC6.out (KM.trans HC7.out hC8);have I8:w8.heap[w.heap.size]?=some (.cells #[.slice none 0 0,J 0,J 0,J 0] 248 (0,0)):=by have e5:=(Ya.out.block _ (aW HR4.out)).trans HR4.out;exact(CC.block _ (aW e5) (fun e=>by have:=KM.lo IZ.out e;have:=aW HR4.out;omega)).trans e5
 have BF:=CC.below (BO.out.trans (Ya.out.mono ak)) ak (fun i e=>by have:=KM.lo IZ.out e;omega)
 have ark:w8.ownsRow w.heap.size 3 1 (.slice sa (Gm now s7 hh7 ll7).st.length sc) (Gm now s7 hh7 ll7).st.length (EP (Gm now s7 hh7 ll7).st):=iL hM8.starts ak;have hsr:∀k,(Value.slice sa (Gm now s7 hh7 ll7).st.length sc).ownBlock=some k->k≠w.heap.size:=fun k e=>by obtain⟨_,cs,hk⟩:=gI ark e;exact iV hk I8 aT
 rw[← WR.out]at m4;generalize Gm now s7 hh7 ll7=S8 at *;have c0:=aj I8 (k:=0) rfl;have c1:=aj I8 (k:=1) rfl;have c2:=aj I8 (k:=2) rfl;have c3:=aj I8 (k:=3) rfl;have g0:=aD I8 (k:=0);have g1:=aD I8 (k:=1);have g2:=aD I8 (k:=2);have g3:=aD I8 (k:=3);have aGv:=iV hM8.blk I8 aT;have HBF:Hid _:=BF;have HSR:Hid _:=ark;have HSN:Hid _:=hsr;have Bw:Hid _:=I8;clear D3 hM8 hC8 CC I8 BF ark hsr IZ HC6 HC7 HR4 BO Ya;go_region
 go_wp2;have e4:=ah4 (v0:=.slice sa S8.st.length sc) (v1:=J PV.ho) (v2:=J PV.sh) (v3:=J PV.ex) Bw.out
 have y0:=aj e4 (k:=0) rfl;have y1:=aj e4 (k:=1) rfl;have y2:=aj e4 (k:=2) rfl;have y3:=aj e4 (k:=3) rfl;have hfr:∀k,(Value.slice sa S8.st.length sc).ownBlock=some k->((((w8.setCell ⟨w.heap.size,0,none⟩ (.slice sa S8.st.length sc)).setCell ⟨w.heap.size,1,none⟩ (J PV.ho)).setCell ⟨w.heap.size,2,none⟩ (J PV.sh)).setCell ⟨w.heap.size,3,none⟩ (J PV.ex)).heap[k]?=w8.heap[k]?:=fun k e=>by have hne:=HSN.out k e;exact(gy _ _ _ _ hne).trans ((gy _ _ _ _ hne).trans ((gy _ _ _ _ hne).trans (gy _ _ _ _ hne)))
 refine b_ (v:=.tuple #[aiz (.slice sa S8.st.length sc) PV,J 0]) (by simp[results,results192,go_sem,y0,y1,y2,y3,aiz]) rfl ?_;rw[HPE.out];refine⟨.slice sa S8.st.length sc,rfl,?_,BN (arj HBF.out (aC _))⟩;rw[HE2.out,dL,<-adE];exact iK HSR.out hfr
end Pq
end Go.Proofs.YtdhifkbbjlhcaaaGreatDoor
