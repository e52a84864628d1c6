import Derived.Test.YtdhifkbbjlhcaaaGreatDoorKz21
import Derived.Carry
import Derived.Deep.CutBlock
import Derived.Deep.DeepCutAuto
set_option maxRecDepth 20000
set_option maxHeartbeats 1000000
set_option linter.defProp false
namespace Go.Proofs.YtdhifkbbjlhcaaaGreatDoor
open Go.Proofs.Tryz
variable {S:List Int} {W w:ay} {ao:Option Addr} {c k:Nat} {free need now:Int} {l:List Pq.Pr.Rn}
namespace Pq.Pr
def Du (now free:Int) (l:List Rn) (need T:Int):Prop:=now<=T/\need<=pQ free l T/\∀u,now<=u->u<T->pQ free l u<need
def ame {need T T':Int} (h:Du now free l need T) (h':Du now free l need T'):T=T':=by
 grind[Du]
theorem Aw (h:right free l=true):fC now free l=fromV free l now:=by grind[fC,fromV]
theorem sj {s:Stp} (h:aX now free l need=some s):right free l=true/\0<=need:=by
 grind[aX]
theorem jT {s:Stp} (h:aX now free l need=some s):Du now free l need s.at_/\s.fr=pQ free l s.at_:=by
 have⟨hr,hn⟩:=sj h;grind[aX,Aw,Dj,Du]
theorem Bh {now free need T:Int} (hr:right free l=true) (hn:0<=need) (h:Du now free l need T):aX now free l need=some ⟨T,pQ free l T⟩:=by
 cases hs:aX now free l need with
 | none=>grind[aX,Aw,Dj,Du]
 | some s=>have⟨h1,h2⟩:=jT hs;have e:=ame h1 h;obtain⟨a,b⟩:=s;grind
theorem fP:right free l=true↔(0<=free/\free<=256)/\l.all qX=true:=by
 unfold right okF;simp
def ac4 {now free need T k e:Int} (hr:right free l=true) (hn:0<=need) (h:Du now free l need T) (hk1:1<=k) (hk2:k<=free) (heT:e<=T):
  aX now (free - k) (l++ [⟨k,e⟩]) need=some ⟨T,pQ free l T⟩:=by
 have⟨⟨f0,f1⟩,hok⟩:=fP.1 hr;have hat:∀u,pQ (free - k) (l++ [⟨k,e⟩]) u=pQ free l u - k+(if e<=u then k else 0):=fun u=>by rw[pR,pR,QT];simp only[su];omega
 have hr':right (free - k) (l++ [⟨k,e⟩])=true:=by grind[fP,qX]
 grind[Bh,Du]
def Rc {now free need T k e:Int} (hr:right free l=true) (hn:0<=need) (h:Du now free l need T) (hk1:1<=k) (hk2:k<=free) (heT:T<e) (hm:k<=pQ free l T - need):
  aX now (free - k) (l++ [⟨k,e⟩]) need=some ⟨T,pQ free l T - k⟩:=by
 have⟨⟨f0,f1⟩,hok⟩:=fP.1 hr;have hat:∀u,pQ (free - k) (l++ [⟨k,e⟩]) u=pQ free l u - k+(if e<=u then k else 0):=fun u=>by rw[pR,pR,QT];simp only[su];omega
 grind[fP,qX,Bh,Du]
end Pq.Pr
namespace Pq.Pr
structure Wt where
 job:Int
 nd:Int
 lm:Int
def noW:Wt:=⟨-1,0,0⟩
structure Ps where
 fr:Int
 rs:List Rn
 st:List Wt
def rOf (now:Int) (w:Wt):Rn:=⟨w.nd,now+w.lm⟩
def sw (now:Int) (s:Ps) (w:Wt):Ps:=⟨s.fr - w.nd,s.rs++ [rOf now w],s.st++ [w]⟩
def iZ (now:Int):Ps->List Wt->Ps×List Wt
 | s,[]=>(s,[])
 | s,w::l=>if w.nd<=s.fr then iZ now (sw now s w) l else(s,w::l)
def jC (now sh:Int):Ps->Int->List Wt->Ps
 | s,_,[]=>s
 | s,x,w::l=>if w.nd<=s.fr/\now+w.lm<=sh then jC now sh (sw now s w) x l
   else if w.nd<=s.fr/\w.nd<=x then jC now sh (sw now s w) (x - w.nd) l
   else jC now sh s x l
def leftV (now sh:Int):Ps->Int->List Wt->Int
 | _,x,[]=>x
 | s,x,w::l=>if w.nd<=s.fr/\now+w.lm<=sh then leftV now sh (sw now s w) x l
   else if w.nd<=s.fr/\w.nd<=x then leftV now sh (sw now s w) (x - w.nd) l
   else leftV now sh s x l
def dX (ho:Int):Wt->List Wt->Wt
 | h,[]=>h
 | h,w::l=>dX ho (if w.job=ho then w else h) l
def gQ (ho:Int) (ws:List Wt):List Wt:=ws.filter fun w=>decide (w.job≠ho)
def gD (now:Int) (s:Ps) (h:Wt):Ps×Wt:=if h.job≠ -1/\h.nd<=s.fr then(sw now s h,noW)else(s,h)
def kQ (now:Int) (s:Ps) (h:Wt) (l:List Wt):Ps×Wt×List Wt:=
 if h.job≠ -1 then(s,h,l)else match (iZ now s l).2 with
  | []=>((iZ now s l).1,noW,[])
  | w::l'=>((iZ now s l).1,w,l')
structure Pln where
 st:List Int
 ho:Int
 sh:Int
 ex:Int
def atO (o:Option Stp):Int:=match o with
 | none=>0
 | some s=>s.at_
def exO (need:Int) (o:Option Stp):Int:=match o with
 | none=>0
 | some s=>s.fr - need
def Gm (now:Int) (s:Ps) (h:Wt) (l:List Wt):Ps:=
 if h.job= -1 then s else jC now (atO (aX now s.fr s.rs h.nd)) s (exO h.nd (aX now s.fr s.rs h.nd)) l
def endP (now:Int) (s:Ps) (h:Wt) (l:List Wt):Pln:=
 if h.job= -1 then⟨s.st.map Wt.job, -1,0,0⟩
 else⟨(Gm now s h l).st.map Wt.job,h.job,atO (aX now s.fr s.rs h.nd),exO h.nd (aX now s.fr s.rs h.nd)⟩
def hdV (now free:Int) (ws:List Wt) (ho:Int) (rs:List Rn):Ps×Wt:=gD now ⟨free,rs,[]⟩ (dX ho noW ws)
def pnV (now free:Int) (ws:List Wt) (ho:Int) (rs:List Rn):Ps×Wt×List Wt:=kQ now (hdV now free ws ho rs).1 (hdV now free ws ho rs).2 (gQ ho ws)
def jK (now free:Int) (ws:List Wt) (ho:Int) (rs:List Rn):Pln:=endP now (pnV now free ws ho rs).1 (pnV now free ws ho rs).2.1 (pnV now free ws ho rs).2.2
structure Chk (now free:Int) (ws:List Wt) (ho:Int) (rs:List Rn):Prop where
 n0:0<=now
 n1:now<=2199023255552
 rt:right free rs=true
 re:∀r∈rs,now<r.en/\r.en<=4398046511104
 wt:∀w∈ws,0<=w.job/\1<=w.nd/\w.nd<=256/\w.nd<=free+fG rs/\1<=w.lm/\w.lm<=1048576
 un:(ws.map Wt.job).Nodup
 hd:ho= -1\/∃w∈ws,w.job=ho
def o9:List Wt->Int
 | []=>0
 | w::l=>w.nd+o9 l
def ahP (a b:List Wt):o9 (a++b)=o9 a+o9 b:=by
 induction a with
 | nil=>simp[o9]
 | cons w a ih=>grind[o9]
structure Good (now free:Int) (rs:List Rn) (s:Ps):Prop where
 fr:s.fr=free - o9 s.st
 rs:s.rs=rs++s.st.map (rOf now)
 nn:0<=s.fr
 fit:∀i w,s.st[i]?=some w->w.nd<=free - o9 (s.st.take i)
 pos:∀w∈s.st,1<=w.nd/\w.nd<=256
def ahQ {rs:List Rn} (h:0<=free):Good now free rs ⟨free,rs,[]⟩:=
 ⟨by simp[o9],by simp,h,fun i w hi=>by grind,fun w hw=>by grind⟩
theorem sD {rs:List Rn} {s:Ps} {w:Wt} (h:Good now free rs s) (hf:w.nd<=s.fr) (hp:1<=w.nd/\w.nd<=256):Good now free rs (sw now s w):=by
 refine⟨?_,?_,?_,fun i x hi=>?_,fun x hx=>?_⟩
 ·simp only[sw,ahP,o9];have:=h.fr;omega
 ·grind[sw,Good.rs]
 ·simp only[sw];omega
 ·simp only[sw]at hi ⊢;rcases Nat.lt_trichotomy i s.st.length with c | c | c
  ·rw[List.getElem?_append_left c]at hi;rw[List.take_append_of_le_length ak];exact h.fit i x hi
  ·grind[Good.fr]
  grind
 ·simp only[sw]at hx;rcases pX.1 hx with hx | hx
  ·exact h.pos x hx
  grind
def ahR {rs:List Rn} {s:Ps} (h:Good now free rs s):s.fr+fG s.rs=free+fG rs:=by
 rw[h.fr,h.rs,uf];have:∀l:List Wt,fG (l.map (rOf now))=o9 l:=fun l=>by
  induction l with
  | nil=>rfl
  | cons w l ih=>grind[fG,o9,rOf]
 grind
def Je {l:List Wt} (h:∀w∈l,1<=w.nd/\w.nd<=256):(l.length:Int)<=o9 l:=by
 induction l with
 | nil=>simp[o9]
 | cons w l ih=>have:=ih (fun x hx=>h x (by simp[hx]));grind[o9]
def ahS {rs:List Rn} {s:Ps} (h:Good now free rs s):(s.st.length:Int)<=free:=by
 have:=Je h.pos;have:=h.fr;have:=h.nn;omega
def Lp {rs:List Rn} {s:Ps} (h:Good now free rs s) (hr:right free rs=true):right s.fr s.rs=true:=by
 have⟨⟨f0,f1⟩,hok⟩:=fP.1 hr;have h1:=Je h.pos;refine fP.2 ⟨⟨h.nn,?_⟩,?_⟩
 ·grind[Good.fr]
 ·rw[h.rs,List.all_append,hok,rO,vC];grind[Good.pos,qX,rOf]
def Bj {rs:List Rn}:∀(l:List Wt) (s:Ps),Good now free rs s->(∀w∈l,1<=w.nd/\w.nd<=256)->
  Good now free rs (iZ now s l).1/\∃a,l=a++(iZ now s l).2/\(iZ now s l).1.st=s.st++a/\∀w b,(iZ now s l).2=w::b->(iZ now s l).1.fr<w.nd:=by
 intro l;induction l with
 | nil=>intro s h _;exact⟨h,[],rfl,by simp[iZ],fun w b e=>by simp[iZ]at e⟩
 | cons w l ih=>
  intro s h hp;simp only[iZ];by_cases c:w.nd<=s.fr
  ·rw[aJ c];obtain⟨g,a,h1,h2,h3⟩:=ih (sw now s w) (sD h c (hp w dF)) (fun x hx=>hp x (by grind));grind[sw]
  ·rw[au c];simp_all
def ac6 {now free T need:Int} {rs:List Rn} (hr:right free rs=true) (hn:0<=need):∀(l:List Wt) (s:Ps) (X:Int),Good now free rs s->(∀w∈l,1<=w.nd/\w.nd<=256)->
  aX now s.fr s.rs need=some ⟨T,X+need⟩->
  Good now free rs (jC now T s X l)/\(jC now T s X l).fr<=s.fr/\leftV now T s X l<=X/\
  aX now (jC now T s X l).fr (jC now T s X l).rs need=some ⟨T,leftV now T s X l+need⟩/\
  ∃f,(jC now T s X l).st=s.st++f/\f.Sublist l/\∀w∈l,w∈f\/(jC now T s X l).fr<w.nd\/(T<now+w.lm/\leftV now T s X l<w.nd):=by
 intro l;induction l with
 | nil=>intro s X h _ hs;exact⟨h,kL _,kL _,hs,[],by simp[jC],List.Sublist.refl _,fun w hw=>by simp at hw⟩
 | cons w l ih=>
  intro s X h hp hs;have hw:=hp w dF;have hp':∀x∈l,1<=x.nd/\x.nd<=256:=fun x hx=>hp x (by simp[hx]);have hrs:=Lp h hr;have⟨his,hfr⟩:=jT hs;simp only at his hfr;simp only[jC,leftV];by_cases c1:w.nd<=s.fr/\now+w.lm<=T
  ·rw[aJ c1,aJ c1];have e:=ac4 hrs hn his hw.1 c1.1 c1.2;rw[← hfr]at e;have⟨g1,g2,g3,g4,f,g5,g6,g7⟩:=ih (sw now s w) X (sD h c1.1 hw) hp' e;refine⟨g1,?_,g3,g4,w::f,by rw[g5];simp[sw],List.Sublist.cons_cons w g6,fun x hx=>?_⟩
   ·have:(sw now s w).fr=s.fr - w.nd:=rfl;omega
   ·exact aoe
  ·rw[au c1,au c1];by_cases c2:w.nd<=s.fr/\w.nd<=X
   ·rw[aJ c2,aJ c2];have hlt:T<now+w.lm:=by
     have:=c2.1;by_cases hh:now+w.lm<=T
     ·exact absurd ⟨this,hh⟩ c1
     ·omega
    have e:=Rc hrs hn his hw.1 c2.1 hlt (by rw[← hfr];have:=c2.2;omega)
    rw[← hfr,show X+need - w.nd=X - w.nd+need by omega]at e;have⟨g1,g2,g3,g4,f,g5,g6,g7⟩:=ih (sw now s w) (X - w.nd) (sD h c2.1 hw) hp' e;refine⟨g1,?_,by omega,g4,w::f,by rw[g5];simp[sw],List.Sublist.cons_cons w g6,fun x hx=>?_⟩
    ·have:(sw now s w).fr=s.fr - w.nd:=rfl;omega
    ·exact aoe
   ·rw[au c2,au c2];have⟨g1,g2,g3,g4,f,g5,g6,g7⟩:=ih s X h hp' hs;refine⟨g1,g2,g3,g4,f,g5,List.Sublist.cons w g6,fun x hx=>?_⟩;rcases lZ.1 hx with rfl | hx
    ·by_cases d:x.nd<=s.fr
     ·refine .inr ?_;by_cases d2:x.nd<=(jC now T s X l).fr
      ·refine .inr ⟨?_,?_⟩
       ·by_cases hh:now+x.lm<=T
        ·exact absurd ⟨d,hh⟩ c1
        ·omega
       ·by_cases hh:x.nd<=X
        ·exact absurd ⟨d,hh⟩ c2
        ·omega
      ·exact .inl ak
     ·exact .inr (.inl ak)
    ·exact g7 x hx
def Gn {rs:List Rn} (hr:right free rs=true) (hn:0<=need) (h:need<=free+fG rs):∃s,aX now free rs need=some s:=by
 cases hs:aX now free rs need with
 | some s=>grind
 | none=>
  unfold aX at hs;rw[aJ (by grind),Aw hr]at hs;have⟨s,h1,h2⟩:=acn (free:=free) (l:=rs) now;have hb:∃u,now<=u/\∀r∈rs,r.en<=u:=by
   clear hs h h1 h2 hr;induction rs with
   | nil=>exact⟨now,kL _,fun r hr=>by grind⟩
   | cons r rs ih=>obtain⟨u,h1,h2⟩:=ih;refine⟨max u r.en,by omega,fun x hx=>?_⟩;grind
  obtain⟨u,u1,u2⟩:=hb;have:=(Dj now).2 hs u u1;rw[pR,ahd u2]at this;omega
end Pq.Pr
namespace Pq.Pr
theorem OT {ws:List Wt} (hu:(ws.map Wt.job).Nodup) {a b:Wt} (ha:a∈ws) (hb:b∈ws) (h:a.job=b.job):a=b:=by
 induction ws with
 | nil=>grind
 | cons w ws ih=>grind
def Gp {ho:Int}:∀(ws:List Wt) (h:Wt),(∀w∈ws,w.job≠ho)->dX ho h ws=h:=by
 intro ws;induction ws with
 | nil=>intro h _;rfl
 | cons w ws ih=>grind[dX]
def Vf {ho:Int} {ws:List Wt} (h:∀w∈ws,w.job≠ho):gQ ho ws=ws:=by
 grind[gQ,JH]
def Gq {ho:Int}:∀ {ws:List Wt},(ws.map Wt.job).Nodup->∀(h0 h:Wt),h0∈ws->h0.job=ho->dX ho h ws=h0/\(h0::gQ ho ws).Perm ws:=by
 intro ws;induction ws with
 | nil=>grind
 | cons w ws ih=>
  intro hu h0 h hm hj;have hu':=hu;rw[nI,NC]at hu';rcases lZ.1 hm with rfl | hm
  ·have hn:∀w∈ws,w.job≠ho:=(by grind);simp only[dX];rw[aJ hj,Gp ws _ hn];refine⟨rfl,?_⟩;unfold gQ;rw[List.filter_cons_of_neg (by grind)];have:=Vf hn;unfold gQ at this;rw[this]
  ·have hne:w.job≠ho:=(by grind);simp only[dX];rw[au hne];have⟨h1,h2⟩:=ih hu'.2 h0 h hm hj;refine⟨h1,?_⟩;unfold gQ at h2 ⊢;rw[List.filter_cons_of_pos (by grind)];exact(List.Perm.swap w h0 _).trans (h2.cons w)
structure Done (now free:Int) (ws:List Wt) (ho:Int) (rs:List Rn) (p:Pln) (pre f rest:List Wt) (h:Wt) (Y:Int) (s:Ps):Prop where
 st:p.st=s.st.map Wt.job
 ps:s.st=pre++f
 good:Good now free rs s
 hh:p.ho=h.job
 over:h.job= -1->p.sh=0/\p.ex=0/\f= []/\pre.Perm ws
 hold:h.job≠ -1->(pre++h::rest).Perm ws/\f.Sublist rest/\s.fr<h.nd/\now<p.sh/\aX now s.fr s.rs h.nd=some ⟨p.sh,Y+h.nd⟩/\Y<=p.ex/\
  ∀w∈rest,w∈f\/s.fr<w.nd\/(p.sh<now+w.lm/\Y<w.nd)
 first:∀h0∈ws,h0.job=ho->(h0.nd<=free->∃t,pre=h0::t)/\(free<h0.nd->h=h0/\pre= [])
def ac7 {now free ho:Int} {ws:List Wt} {rs:List Rn} {s:Ps} (hc:Chk now free ws ho rs) (hg:Good now free rs s) (hst:∀w∈s.st,w∈ws):∀r∈s.rs,now<r.en:=by
 intro r hr;rw[hg.rs]at hr;rcases pX.1 hr with hr | hr
 ·exact (hc.re r hr).1
 ·obtain ⟨w,hw,rfl⟩:=jH.1 hr;have:=hc.wt w (hst w hw);grind[rOf]
def Ls {now free ho:Int} {ws rest pre:List Wt} {rs:List Rn} {s:Ps} {h:Wt} (hc:Chk now free ws ho rs) (hg:Good now free rs s) (hst:s.st=pre) (hp:(pre++h::rest).Perm ws) (hf:s.fr<h.nd)
  (YF:∀h0∈ws,h0.job=ho->(h0.nd<=free->∃t,pre=h0::t)/\(free<h0.nd->h=h0/\pre= [])):
  ∃f Y s',Done now free ws ho rs (endP now s h rest) pre f rest h Y s':=by
 have hm:∀w,w∈pre\/w=h\/w∈rest->w∈ws:=by grind
 have hh:=hc.wt h (hm h (.inr (.inl rfl)));have hj:¬h.job= -1:=ak;have hrs:=Lp hg hc.rt;have hsum:=ahR hg;have⟨⟨T,F⟩,hsh⟩:=Gn (now:=now) hrs (need:=h.nd) ak ak;have⟨his,hfr⟩:=jT hsh;simp only at his hfr;have au9:=ac7 hc hg (fun w hw=>hm w (.inl (hst▸hw)));have hT:now<T:=by
  rcases Int.lt_or_eq_of_le his.1 with c | c
  ·omega
  ·have:=his.2.1;rw[← c,pR,Ju au9]at this;omega
 have hsh':aX now s.fr s.rs h.nd=some ⟨T,(F - h.nd)+h.nd⟩:=by grind
 obtain⟨g1,g2,g3,g4,f,g5,g6,g7⟩:=ac6 hc.rt ak rest s (F - h.nd) hg (fun w hw=>by have:=hc.wt w (hm w (.inr (.inr hw)));omega) hsh'
 refine⟨f,leftV now T s (F - h.nd) rest,jC now T s (F - h.nd) rest,?_⟩;unfold endP Gm;rw[au hj,au hj,hsh];simp only[atO,exO];exact⟨rfl,by grind,g1,rfl,fun e=>absurd e hj,fun _=>⟨hp,g6,by omega,hT,g4,g3,g7⟩,YF⟩
def Vg {now free ho:Int} {ws pre rest:List Wt} {rs:List Rn} {s:Ps} (hg:Good now free rs s) (hst:s.st=pre) (hp:pre.Perm ws)
  (YF:∀h0∈ws,h0.job=ho->(h0.nd<=free->∃t,pre=h0::t)/\(free<h0.nd->noW=h0/\pre= [])):
  ∃f Y s',Done now free ws ho rs (endP now s noW rest) pre f [] noW Y s':=by
 refine⟨[],0,s,?_⟩;unfold endP;rw[aJ (show noW.job= -1 from rfl)];exact⟨rfl,by grind,hg,rfl,fun _=>⟨rfl,rfl,rfl,hp⟩,fun e=>absurd rfl e,YF⟩
def OU {now free ho:Int} {ws:List Wt} {rs:List Rn} (hc:Chk now free ws ho rs):∃pre f rest h Y s,Done now free ws ho rs (jK now free ws ho rs) pre f rest h Y s:=by
 have⟨⟨f0,f1⟩,hok⟩:=fP.1 hc.rt;have hg0:Good now free rs ⟨free,rs,[]⟩:=ahQ f0;have hpos:∀w∈ws,1<=w.nd/\w.nd<=256:=fun w hw=>by have:=hc.wt w hw;omega
 have hpo:∀w∈gQ ho ws,1<=w.nd/\w.nd<=256:=by grind[gQ]
 unfold jK pnV hdV;by_cases hex:∃h0∈ws,h0.job=ho
 ·obtain ⟨h0,hm,hj⟩:=hex;have⟨e1,hp⟩:=Gq hc.un h0 noW hm hj;rw[e1];have hh:=hc.wt h0 hm;have hnj:h0.job≠ -1:=ak;have huq:∀x∈ws,x.job=ho->x=h0:=by grind[gQ]
  by_cases hf:h0.nd<=free
  ·have e2:gD now ⟨free,rs,[]⟩ h0=(sw now ⟨free,rs,[]⟩ h0,noW):=aJ ⟨hnj,hf⟩;rw[e2];simp only;have hg1:=sD hg0 (w:=h0) hf (hpos h0 hm);have⟨r1,a,r2,r3,r4⟩:=Bj (gQ ho ws) _ hg1 hpo;unfold kQ;rw[au (fun hh=>hh rfl)];have hst:(iZ now (sw now ⟨free,rs,[]⟩ h0) (gQ ho ws)).1.st=h0::a:=by grind[sw]
   cases hb:(iZ now (sw now ⟨free,rs,[]⟩ h0) (gQ ho ws)).2 with
   | nil=>rw[hb,vW]at r2;simp only;obtain⟨f,Y,s,hd⟩:=Vg (now:=now) (ho:=ho) (ws:=ws) (rest:= []) r1 hst (by grind) (fun x hx e=>⟨fun _=>⟨a,by grind⟩,fun hlt=>by grind⟩);grind
   | cons w b=>simp only;rw[hb]at r2;obtain⟨f,Y,s,hd⟩:=Ls (rest:=b) hc r1 hst (by grind) (r4 w b hb) (fun x hx e=>⟨fun _=>⟨a,by grind⟩,fun hlt=>by grind⟩);grind
  ·have e2:gD now ⟨free,rs,[]⟩ h0=(⟨free,rs,[]⟩,h0):=(by grind[gD]);rw[e2];simp only;unfold kQ;rw[aJ hnj];simp only;obtain⟨f,Y,s,hd⟩:=Ls (rest:=gQ ho ws) (pre:= []) hc hg0 rfl hp (by grind) (fun x hx e=>⟨fun hle=>by grind,fun _=>⟨(huq x hx e).symm,rfl⟩⟩);grind
 ·have hn:∀w∈ws,w.job≠ho:=by grind
  rw[Gp ws noW hn,Vf hn];have e2:gD now ⟨free,rs,[]⟩ noW=(⟨free,rs,[]⟩,noW):=by grind[gD,noW]
  rw[e2];simp only;have⟨r1,a,r2,r3,r4⟩:=Bj ws _ hg0 hpos;unfold kQ;rw[au (fun hh=>hh rfl)];have hst:(iZ now ⟨free,rs,[]⟩ ws).1.st=a:=by grind
  cases hb:(iZ now ⟨free,rs,[]⟩ ws).2 with
  | nil=>rw[hb,vW]at r2;simp only;obtain⟨f,Y,s,hd⟩:=Vg (now:=now) (ho:=ho) (ws:=ws) (rest:= []) r1 hst (by rw[← r2]) (fun x hx e=>absurd ⟨x,hx,e⟩ hex);grind
  | cons w b=>simp only;rw[hb]at r2;obtain⟨f,Y,s,hd⟩:=Ls (rest:=b) (pre:=a) hc r1 hst (by rw[← r2]) (r4 w b hb) (fun x hx e=>absurd ⟨x,hx,e⟩ hex);grind
end Pq.Pr
namespace Pq
open Go.RowKit Pr
namespace Pr
def YG (a b n:Int):Bool:=decide (a<=n)&&decide (n<=b)
def ko (now:Int) (r:Rn):Bool:=qX r&&(decide (now+1<=r.en)&&decide (r.en<=4398046511104))
def aq3 (now:Int):Bool:=decide (0<=now)&&decide (now<=2199023255552)
def ED (now free:Int) (l:List Rn):Bool:=(aq3 now&&okF free)&&l.all (ko now)
def wX (ho:Int) (l:List Wt):Bool:=decide (ho= -1)||l.any fun w=>decide (w.job=ho)
def ac8 {p:Wt->Bool} {l:List Wt} {r:Wt} (h:l[k]?=some r):(l.drop k).any p=(p r||(l.drop (k+1)).any p):=by
 grind[tu]
end Pr
def kK (W:ay) (ao:Option Addr) (l:List Wt):Prop:=∃g o,(0<l.length->ao=some ⟨g,o,none⟩)/\∀k r,l[k]?=some r->W.cell? ⟨g,o+k*3,none⟩=some (J r.job)/\W.cell? ⟨g,o+k*3+1,none⟩=some (J r.nd)/\W.cell? ⟨g,o+k*3+2,none⟩=some (J r.lm)
theorem kK.below {W W':ay} {l:List Wt} (h:kK W ao l) (b:Z W W'):kK W' ao l:=by
 obtain⟨g,o,h1,h2⟩:=h;exact⟨g,o,h1,fun k r hr=>⟨(b.cell (aU W _ (h2 k r hr).1)).trans (h2 k r hr).1,(b.cell (aU W _ (h2 k r hr).2.1)).trans (h2 k r hr).2.1,(b.cell (aU W _ (h2 k r hr).2.2)).trans (h2 k r hr).2.2⟩⟩
def Rf {a b n:Int} (h:YG a b n=true) (w:ay):Calls prog 270 #[J a,J b,J n] w fun e w'=>e=.returned (.bool true)/\w'=w:=by
 obtain⟨h1,h2⟩:a<=n/\n<=b:=by simpa [YG]using h
 clear h;go_enter func270,ntmps270;exact mY
def ac9 {r:Rn} {b:Nat} (hb:w.cell? ⟨b,0,none⟩=some (J now)) (h0:0<=now) (h1:now<=2199023255552) (hr:ko now r=true):
  Calls prog 269 #[.agg #[J r.nd,J r.en],.pointer (some ⟨b,0,none⟩)] w fun e w'=>e=.returned (.bool false)/\Z w w':=by
 have hbl:Z w (w.alloc (.cells #[J r.nd,J r.en] 108)):=(aI _ w).alloc (aC _) _;have hb':=(hbl.cell (aU w _ hb)).trans hb;have⟨c1,c2⟩:=(lW _ _▸(show (YG 1 256 r.nd&&YG (now+1) 4398046511104 r.en)=true from hr));clear hb hr;go_enter func269,ntmps269;go_wp2_with (first | (go_at_call 270;refine(Rf lV _).mono ?_;rintro e w' ⟨rfl,rfl⟩))
 go_ret;exact⟨rfl,hbl⟩
def Vh {c b:Nat} (hA:eO w ao l) (hn:l.length*16<=140737488355328) (hb0:w.cell? ⟨b,0,none⟩=some (J now)) (h0:0<=now) (h1:now<=2199023255552) (hy:∀r∈l,ko now r=true):
  Calls prog 293 #[.slice ao l.length c,.func (.func 269) #[] #[.pointer (some ⟨b,0,none⟩)]] w fun e w'=>e=.returned (J (-1))/\Z w w':=by
 have⟨q,hq⟩:=aZ l.length;obtain⟨g,o,hg,hc⟩:=hA;rw[hq];rw[hq]at hg hn;have HY:Hid _:=hy;clear hy;go_enter func293,ntmps293;go_wp2;go_loopg [8] q (fun gk p wr=>∃j:Nat,j+gk=q/\p=J j/\Z w wr)
 case atStart=>exact⟨0,by omega,rfl,aI _ _⟩
 case round=>
  obtain⟨j,hj,rfl,hb⟩:=hrel;by_cases hlt:j<q
  ·obtain ⟨r,hr⟩:∃r,l[j]?=some r:=⟨_,aY ak⟩;obtain rfl:=hg ak;have⟨c1,c2⟩:=hc j r hr;replace c1:=(hb.cell (aU w _ c1)).trans c1;replace c2:=(hb.cell (aU w _ c2)).trans c2;have cb:=(hb.cell (aU w _ hb0)).trans hb0;have hwr:=ac9 cb h0 h1 (HY.out r (dW hr));clear hc hg hr;go_wp2_with fail
   refine hwr.mono ?_;rintro e w1 ⟨rfl,b1⟩;have b2:=hb.trans (b1.mono hb.size);clear hwr;go_wp2;go_roundg (q - (j+1))
   case measure=>omega
   case rel=>exact⟨j+1,by omega,rfl,b2⟩
  ·obtain rfl:j=q:=ak;exact FK
def YH (hA:eO w ao l) (hn:l.length*16<=140737488355328) (h:ED now free l=true):
  Calls prog 228 #[J now,J free,.slice ao l.length c] w fun e w'=>e=.returned (.bool true)/\Z w w':=by
 have hbl:Z w (w.alloc (.cells #[J now] 3)):=(aI _ w).alloc (aC _) _;obtain⟨⟨c1,c2⟩,c3⟩:(YG 0 2199023255552 now=true/\YG 0 256 free=true)/\l.all (ko now)=true:=by have h':((YG 0 2199023255552 now&&YG 0 256 free)&&l.all (ko now))=true:=h;rwa [lW,lW]at h'
 obtain⟨n0,n1⟩:0<=now/\now<=2199023255552:=by simpa [YG]using c1
 have hcon:Calls prog 271 #[.slice ao l.length c,.func (.func 269) #[] #[.pointer (some ⟨w.heap.size,0,none⟩)]] (w.alloc (.cells #[J now] 3)) fun e w'=>e=.returned (.bool false)/\Below (w.alloc (.cells #[J now] 3)).heap.size (w.alloc (.cells #[J now] 3)) w':=by
  have hix:=Vh (c:=c) (hA.below hbl) hn (b:=w.heap.size) (now:=now) (iQ w rfl) n0 n1 (vC.1 c3);generalize w.alloc (.cells #[J now] 3)=W at hix ⊢;go_enter func271,ntmps271;go_wp2_with fail
  refine hix.mono ?_;exact Xi
 clear c3 h;go_enter func228,ntmps228;go_wp2_with (first | (go_at_call 270;refine(Rf lV _).mono ?_;rintro e w' ⟨rfl,rfl⟩) | (go_at_call 271;refine hcon.mono ?_;rintro e w1 ⟨rfl,b1⟩))
 go_ret;exact⟨rfl,hbl.trans (b1.mono hbl.size)⟩
end Pq
namespace Pq
open Go.RowKit Pr Go.Maps
def amh {k:IntKind} {a b:Int} (h:a=b):Ending.returned (.int k a)=.returned (.int k b):=by rw[h]
def ac_ (hA:eO w ao l) (hn:l.length*16<=140737488355328) (hok:l.all qX=true):
  Calls prog 230 #[.slice ao l.length c] w fun e w'=>e=.returned (J (fG l))/\Z w w':=by
 have⟨q,hq⟩:=aZ l.length;obtain⟨g,o,hg,hc⟩:=hA;rw[hq];rw[hq]at hg hn;go_enter func230,ntmps230;go_wp2;go_loopg [3,8] q (fun gk s p wr=>∃j:Nat,j+gk=q/\p=J j/\s=J (fG (l.take j))/\Z w wr)
 case atStart=>exact⟨0,by omega,rfl,rfl,aI _ _⟩
 case round=>
  obtain⟨j,hj,rfl,rfl,hb⟩:=hrel;by_cases hlt:j<q
  ·obtain ⟨r,hr⟩:∃r,l[j]?=some r:=⟨_,aY ak⟩;obtain rfl:=hg ak;have⟨c1,c2⟩:=hc j r hr;replace c1:=(hb.cell (aU w _ c1)).trans c1;replace c2:=(hb.cell (aU w _ c2)).trans c2;have hs:=qx (wO hok j);have hle:(l.take j).length<=j:=List.length_take_le _ _;have hr1:=ahb (vC.1 hok r (dW hr));have HS:Hid (fG (l.take (j+1))=fG (l.take j)+r.nd):=OI hr;clear hc hg hr hok;generalize hS:fG (l.take j)=S at *;clear hS;have s1:=hs.1;have s2:S<=256*j:=ak;clear hs hle;go_wp2;go_roundg (q - (j+1))
   case measure=>omega
   case rel=>exact⟨j+1,by omega,rfl,by rw[HS.out],hb.trans (dY.mono hb.size)⟩
  ·obtain rfl:j=q:=ak;have e:Hid (fG l=fG (l.take j)):=(by rw[xH ak];exact rfl);go_wp2;go_ret;exact⟨amh (by rw[e.out]),hb⟩
def Vi {a b:Bool} (h:a=b):Ending.returned (.bool a)=.returned (.bool b):=by rw[h]
def ami (r:Wt) {b:Nat} {ho:Int} (hb:w.cell? ⟨b,0,none⟩=some (J ho)):
  Calls prog 272 #[.agg #[J r.job,J r.nd,J r.lm],.pointer (some ⟨b,0,none⟩)] w fun e w'=>e=.returned (.bool (decide (r.job=ho)))/\Z w w':=by
 have hbl:Z w (w.alloc (.cells #[J r.job,J r.nd,J r.lm] 200)):=(aI _ w).alloc (aC _) _;have hlt:=aU w _ hb;have hb':=(hbl.cell hlt).trans hb;clear hb;by_cases h:r.job=ho
 ·rw[show decide (r.job=ho)=true by simp[h]];have⟨x,hx⟩:=aZ r.job;rw[hx]at h hb' hbl ⊢;subst h;exact aoD
 ·rw[show decide (r.job=ho)=false by simp[h]];exact aoD
def Nn {l:List Wt} {c b:Nat} {ho:Int} (hA:kK w ao l) (hn:l.length*24<=140737490000000) (hb0:w.cell? ⟨b,0,none⟩=some (J ho)) (hy:(l.any fun x=>decide (x.job=ho))=true):
  Calls prog 273 #[.slice ao l.length c,.func (.func 272) #[] #[.pointer (some ⟨b,0,none⟩)]] w fun e w'=>e=.returned (.bool true)/\Z w w':=by
 have hix:Calls prog 294 #[.slice ao l.length c,.func (.func 272) #[] #[.pointer (some ⟨b,0,none⟩)]] w fun e w'=>∃k:Int,e=.returned (J k)/\0<=k/\Z w w':=by
  have⟨q,hq⟩:=aZ l.length;obtain⟨g,o,hg,hc⟩:=hA;rw[hq];rw[hq]at hg hn;have HY:Hid _:=hy;clear hy;go_enter func294,ntmps294;go_wp2;go_loopg [8] q (fun gk p wr=>∃j:Nat,j+gk=q/\p=J j/\Z w wr/\((l.drop j).any fun x=>decide (x.job=ho))=true)
  case atStart=>exact⟨0,by omega,rfl,aI _ _,HY.out⟩
  case round=>
   obtain⟨j,hj,rfl,hb,hinv⟩:=hrel;by_cases hlt:j<q
   ·obtain ⟨r,hr⟩:∃r,l[j]?=some r:=⟨_,aY ak⟩;obtain rfl:=hg ak;have⟨c1,c2,c3⟩:=hc j r hr;replace c1:=(hb.cell (aU w _ c1)).trans c1;replace c2:=(hb.cell (aU w _ c2)).trans c2;replace c3:=(hb.cell (aU w _ c3)).trans c3;have cb:=(hb.cell (aU w _ hb0)).trans hb0;rw[ac8 hr]at hinv;have HI:Hid _:=hinv;clear hc hg hr hinv;go_wp2_with fail
    refine(ami r cb).mono ?_;rintro e w1 ⟨rfl,b1⟩;have b2:=hb.trans (b1.mono hb.size)
    cases hh:decide (r.job=ho)with
    | true=>clear hh;go_wp2;go_ret;exact⟨_,rfl,by omega,b2⟩
    | false=>
     have HJ:Hid (((l.drop (j+1)).any fun x=>decide (x.job=ho))=true):=by have:=HI.out;rw[hh,Bool.false_or]at this;exact this
     clear hh;go_wp2;go_roundg (q - (j+1))
     case measure=>omega
     case rel=>exact⟨j+1,by omega,rfl,b2,HJ.out⟩
   ·rw[vY ak]at hinv
    cases hinv
 go_enter func273,ntmps273;go_wp2_with fail
 refine hix.mono ?_;rintro e w1 ⟨k,rfl,hk,b1⟩;go_wp2;go_ret;exact⟨rfl,b1⟩
def Vj {l:List Wt} (hA:kK w ao l) (hn:l.length*24<=140737490000000) {ho:Int} (hy:wX ho l=true):
  Calls prog 231 #[J ho,.slice ao l.length c] w fun e w'=>e=.returned (.bool true)/\Z w w':=by
 have hbl:Z w (w.alloc (.cells #[J ho] 3)):=(aI _ w).alloc (aC _) _;by_cases h:ho= -1
 ·subst h;clear hy;go_enter func231,ntmps231;go_wp2;go_ret;exact⟨by first | rfl | simp,hbl⟩
 ·have e:wX ho l=l.any fun x=>decide (x.job=ho):=by simp[wX,h]
  rw[e]at hy;have hcon:=Nn (c:=c) (hA.below hbl) hn (b:=w.heap.size) (ho:=ho) (iQ w rfl) hy;clear hy e;go_enter func231,ntmps231;go_wp2_with (go_at_call 273;refine hcon.mono ?_;rintro e w1 ⟨rfl,b1⟩)
  go_ret;exact⟨by first | rfl | simp[h] | simp,hbl.trans (b1.mono hbl.size)⟩
end Pq
namespace Pq
open Go.RowKit Pr Go.Maps
namespace Pr
def okW (all:Int) (w:Wt):Bool:=decide (0<=w.job)&&(YG 1 (min all 256) w.nd&&YG 1 1048576 w.lm)
def rW (all:Int):List Int->List Wt->Bool
 | _,[]=>true
 | S,w::l=>(okW all w&& !S.contains w.job)&&rW all (w.job::S) l
def ada {all:Int} {l:List Wt} {r:Wt} (h:l[k]?=some r):rW all S (l.drop k)=((okW all r&& !S.contains r.job)&&rW all (r.job::S) (l.drop (k+1))):=by
 grind[tu,rW]
end Pr
def aaJ (v:Value):Option (DataW Value×List MemPlace):=some (.held v,[])
def Tryz.au_:Keyed prog 3:=int_keyed underlying3
def Tryz.ava (w:ay):(zeroValue 3).run prog w=.ok (.int .i64 0) w:=by simp_all
def af6 {p:Int} (h: -9223372036854775808<=p/\p<=9223372036854775807):keyOf prog 3 (.int .i64 p)=some (.int .i64 p):=keyOf_int_mk underlying3 (vB ak)
def Np (S:List Int) (j:Int):Int:=if S.contains j then 1 else 0
def Tms (W:ay) (m k:Nat) (S:List Int):Prop:=∃D,W.ownsMap prog 3 aaJ m k D/\∀j:Int,D.atKey (.int .i64 j) (.held (.int .i64 0))=.held (.int .i64 (Np S j))
def Tms.made (w:ay):Tms (w.alloc (.map #[] 0)) w.heap.size 0 []:=⟨.map [],JL w prog 3 aaJ,fun _=>rfl⟩
theorem Tms.lt {m k:Nat} (h:Tms W m k S):m<W.heap.size:=by
 obtain⟨D,h1,_⟩:=h;exact h1.lt
theorem Tms.below {W W':ay} {m k:Nat} (h:Tms W m k S) (b:Z W W'):Tms W' m k S:=by
 have hl:=h.lt;obtain⟨D,⟨es,clock,hb,r⟩,h2⟩:=h;exact⟨D,⟨es,clock,(b.block m hl).trans hb,r⟩,h2⟩
def aaL {m k:Nat} {D:DataW Value} {v:Value} {j:Int} (h:W.ownsMap prog 3 aaJ m k D) (hj: -9223372036854775808<=j/\j<=9223372036854775807) (hv:D.atKey (.int .i64 j) (.held (.int .i64 0))=.held v):
  (Instr.lookup 195 (.map (some m)) (.int .i64 j) false).run prog W=.ok v W:=by
 have⟨x,ps,hr,hx⟩:=h.lookup Tryz.au_ underlying195 (Tryz.ava W) (zd:=.held (.int .i64 0)) (zp:= []) rfl (af6 hj);grind[aaJ]
def Tms.step {m k:Nat} {j:Int} (h:Tms W m k S) (hk:k<maxLen) (hj: -9223372036854775808<=j/\j<=9223372036854775807):
  (Instr.lookup 195 (.map (some m)) (.int .i64 j) false).run prog W=.ok (.int .i64 (Np S j)) W/\
  ∃W',(Instr.mapUpdate 195 (.map (some m)) (.int .i64 j) (.int .i64 (Np S j+1))).run prog W=.ok () W'/\(Instr.lookup 195 (.map (some m)) (.int .i64 j) false).run prog W'=.ok (.int .i64 (Np S j+1)) W'/\
   W.grownBy W' (some m)/\(S.contains j=false->Tms W' m (k+1) (j::S)):=by
 obtain⟨D,h1,h2⟩:=h;refine⟨aaL h1 hj (h2 j),?_⟩;have⟨W',hrun,hD,hg⟩:=h1.update Tryz.au_ underlying195 hk (af6 hj) (val:=.int .i64 (Np S j+1)) (d:=.held (.int .i64 (Np S j+1))) (ps:= []) rfl;have ala:=h1.isMap;refine⟨W',hrun,aaL hD hj (Cn (k:=.int .i64 j) ala (by exact trivial) _ _),hg,fun hS=>⟨_,hD,fun i=>?_⟩⟩;by_cases e:i=j
 ·subst e;rw[Cn ala (by exact trivial)];simp only[Np,hS];simp
 ·rw[yY (fun x=>e (Lit.int.inj x).2),h2 i];simp[Np,e]
def makeT (n:Int) (w:ay):(Instr.makeMap 195 (some (.int .i64 n))).run prog w=.ok (.map (some w.heap.size)) (w.alloc (.map #[] 0)):=by
 simp[Instr.makeMap,rM underlying195];rfl
def Vk {l:List Wt} (hA:kK w ao l) (hn:l.length*24<=140737490000000) (hwf:∀x∈l, -9223372036854775808<=x.job/\x.job<=9223372036854775807) (all:Int) (hyes:rW all [] l=true):
  Calls prog 229 #[.slice ao l.length c,.int .i64 all] w fun e w'=>e=.returned (.bool true)/\Z w w':=by
 have⟨q,hq⟩:=aZ l.length;obtain⟨g,o,hg,hc⟩:=hA;rw[hq];rw[hq]at hg hn;have HT0:Hid (Tms (w.alloc (.map #[] 0)) w.heap.size 0 []):=Tms.made w;have hb0:Z w (w.alloc (.map #[] 0)):=(aI _ w).alloc (aC _) _;have hmk:=makeT;have⟨M,hM⟩:=aZ (min all 256);have hok:Hid (∀r:Wt,okW all r=(decide (0<=r.job)&&(YG 1 M r.nd&&YG 1 1048576 r.lm))):=fun r=>by unfold okW;rw[hM]
 have HM:Hid _:=hM;have HY:Hid _:=hyes;clear hM hyes;go_enter func229,ntmps229;go_upto_region 1 with fail
 go_cut [5] (fun p wc=>p=.int .i64 M/\w=wc)
 case first=>
  by_cases hm:all<=256
  ·go_wp2;go_meet
   exact⟨by rw[← HM.out,Int.min_eq_left ak],rfl⟩
  ·go_wp2;go_meet
   exact⟨by rw[← HM.out,Int.min_eq_right ak],rfl⟩
 case rest=>
 obtain⟨rfl,rfl⟩:=hcut;go_wp2;go_loopg [16] q (fun gk p wr=>∃j:Nat,j+gk=q/\p=.int .i64 j/\Tms wr w.heap.size j ((l.take j).reverse.map Wt.job)/\Z w wr/\rW all ((l.take j).reverse.map Wt.job) (l.drop j)=true)
 case atStart=>exact⟨0,by omega,rfl,HT0.out,hb0,by simpa using HY.out⟩
 case round=>
  obtain⟨j,hj,rfl,hT,hb,hinv⟩:=hrel;by_cases hlt:j<q
  ·obtain ⟨r,hr⟩:∃r,l[j]?=some r:=⟨_,aY ak⟩;obtain rfl:=hg ak;have⟨c1,c2,c3⟩:=hc j r hr;replace c1:=(hb.cell (aU w _ c1)).trans c1;replace c2:=(hb.cell (aU w _ c2)).trans c2;replace c3:=(hb.cell (aU w _ c3)).trans c3;have hrw:=hwf r (dW hr);rw[ada hr,hok.out r]at hinv;have⟨W1,hW1⟩:=aZ (wr.alloc (.cells #[.int .i64 r.job,.int .i64 r.nd,.int .i64 r.lm] 200));have b1:Z wr W1:=(by rw[← hW1];exact dY);have hT1:=hT.below b1;have hml:=hT.lt;have aF9:=hT1.lt;have⟨lk,W2,up,lk2,hg2,hT2⟩:=hT1.step (j:=r.job) (by unfold maxLen;omega) hrw;have hz1:W1.heap.size=wr.heap.size+1:=(by rw[← hW1];simp);have hne:w.heap.size≠wr.heap.size:=ak;have bl1:W1.heap[wr.heap.size]?=some (.cells #[.int .i64 r.job,.int .i64 r.nd,.int .i64 r.lm] 200 (0,0)):=(by rw[← hW1];exact aK wr _);have bl2:=(hg2.block _ ak (fun e=>hne (ji e).symm)).trans bl1;have x0:=fK 0 bl1;have y0:=fK 0 bl2;have y1:=fK 1 bl2;have y2:=fK 2 bl2;have b2:=(hb.trans (b1.mono hb.size)).grown hg2 ak (fun k e=>by cases e;omega);have hsn:(l.take (j+1)).reverse.map Wt.job=r.job::(l.take j).reverse.map Wt.job:=(by rw[kT,hr];simp);generalize (l.take j).reverse.map Wt.job=S at *;rw[lW,lW,lW,lW]at hinv;obtain⟨⟨⟨g0,f1,f2⟩,hS⟩,hi⟩:=hinv;replace hS:S.contains r.job=false:=(by simpa using hS);have e1:Np S r.job=0:=(by unfold Np;rw[au (by rw[hS];decide)]);rw[e1]at lk up lk2;rw[show (0:Int)+1=1 from rfl]at up lk2;have HI:Hid (rW all ((l.take (j+1)).reverse.map Wt.job) (l.drop (j+1))=true):=(by rw[hsn];exact hi);have HT3:Hid (Tms W2 w.heap.size (j+1) ((l.take (j+1)).reverse.map Wt.job)):=(by rw[hsn];exact hT2 hS);have h0:¬r.job<0:=(by have:=jY g0;omega);clear hT hT1 hc hg hr hwf hT2 hsn b1 bl1 bl2 hg2 hmk HT0 hb0 hok hne hrw e1 hS hi g0;go_wp2_with (first | (go_at_call 270;refine(Rf lV _).mono ?_;rintro e w' ⟨rfl,rfl⟩))
   go_roundg (q - (j+1))
   case measure=>omega
   case rel=>exact⟨j+1,by omega,rfl,HT3.out,b2,HI.out⟩
  ·obtain rfl:j=q:=ak;clear hinv;exact FK
end Pq
namespace Pq.Pr
def Vl (now free:Int) (ws:List Wt) (ho:Int) (rs:List Rn):Bool:=ED now free rs&&(rW (free+fG rs) [] ws&&wX ho ws)
def ahT (all:Int):∀(ws:List Wt) (S:List Int),rW all S ws=true↔(∀w∈ws,okW all w=true)/\(ws.map Wt.job).Nodup/\∀w∈ws,w.job∉S:=by
 intro ws;induction ws with
 | nil=>intro S;simp[rW]
 | cons w ws ih=>grind[rW]
def aaM {now free ho:Int} {ws:List Wt} {rs:List Rn}:Vl now free ws ho rs=true↔Chk now free ws ho rs:=by
 unfold Vl;rw[lW,lW,ahT];constructor
 ·rintro ⟨h1,⟨h2,h3,_⟩,h4⟩;unfold ED at h1;rw[lW,lW]at h1;obtain⟨⟨a1,a2⟩,a3⟩:=h1;obtain⟨n0,n1⟩:0<=now/\now<=2199023255552:=by simpa [aq3]using a1
  rw[vC]at a3;refine⟨n0,n1,?_,fun r hr=>?_,fun w hw=>?_,h3,?_⟩
  ·grind[right,ko]
  ·grind[ko]
  ·grind[okW,YG]
  grind[wX]
 ·intro hc;have⟨⟨f0,f1⟩,hok⟩:=fP.1 hc.rt;refine⟨?_,⟨fun w hw=>?_,hc.un,fun _ _ h=>by grind⟩,?_⟩
  ·grind[ED,Chk.n0,Chk.n1,aq3,okF,Chk.re,ko]
  ·have:=hc.wt w hw;grind[okW,YG]
  grind[wX,Chk.hd]
def YI (ho:Int):∀(ws:List Wt) (h:Wt),dX ho h ws=h\/dX ho h ws∈ws:=by
 intro ws;induction ws with
 | nil=>intro h;exact .inl rfl
 | cons w ws ih=>grind[dX]
def Im (now free:Int) (ws:List Wt) (ho:Int) (rs:List Rn):Int:=if Vl now free ws ho rs then 0 else 150
end Pq.Pr
namespace Pq.Pr
def avb {l m:List Rn} (h:l.Perm m) (p:Rn->Bool):l.all p=m.all p:=by
 grind
theorem Io {l m:List Rn} (h:l.Perm m):aX now free l need=aX now free m need:=by
 have hat:∀u,pQ free l u=pQ free m u:=fun u=>by rw[pR,pR,QU h]
 have hr:right free l=right free m:=by grind[right]
 cases hs:aX now free m need with
 | some s=>have⟨h1,h2⟩:=jT hs;grind[sj,Bh,Du]
 | none=>
  cases ht:aX now free l need with
  | none=>rfl
  | some s=>have⟨h1,h2⟩:=jT ht;grind[sj,Bh,Du]
structure YJ (s t:Ps):Prop where
 fr:s.fr=t.fr
 st:s.st=t.st
 rs:s.rs.Perm t.rs
theorem YJ.start {s t:Ps} (h:YJ s t) (now:Int) (w:Wt):YJ (sw now s w) (sw now t w):=⟨by grind[sw,fr],by grind[sw,st],h.rs.append_right _⟩
def YJ.rank (now:Int):∀(l:List Wt) {s t:Ps},YJ s t->YJ (iZ now s l).1 (iZ now t l).1/\(iZ now s l).2=(iZ now t l).2:=by
 intro l;induction l with
 | nil=>grind[iZ]
 | cons w l ih=>
  intro s t h;simp only[iZ];rw[← h.fr];by_cases c:w.nd<=s.fr
  ·grind[start]
  grind
theorem YJ.fill (now T:Int):∀(l:List Wt) {s t:Ps} (X:Int),YJ s t->YJ (jC now T s X l) (jC now T t X l):=by
 intro l;induction l with
 | nil=>intro s t X h;exact h
 | cons w l ih=>grind[jC,fr,start]
theorem YJ.ends {s t:Ps} (e:YJ s t) (now:Int) (h:Wt) (l:List Wt):endP now s h l=endP now t h l:=by
 unfold endP Gm;grind[fr,Io,rs,st,fill]
def adb {now free ho:Int} {ws:List Wt} {rs rs':List Rn} (h:rs.Perm rs'):jK now free ws ho rs=jK now free ws ho rs':=by
 have e0:YJ ⟨free,rs,[]⟩ ⟨free,rs',[]⟩:=⟨rfl,rfl,h⟩;unfold jK pnV hdV;have e1:YJ (gD now ⟨free,rs,[]⟩ (dX ho noW ws)).1 (gD now ⟨free,rs',[]⟩ (dX ho noW ws)).1/\(gD now ⟨free,rs,[]⟩ (dX ho noW ws)).2=(gD now ⟨free,rs',[]⟩ (dX ho noW ws)).2:=by
  unfold gD;simp only;split
  ·exact ⟨e0.start now _,rfl⟩
  grind
 rw[← e1.2];generalize (gD now ⟨free,rs,[]⟩ (dX ho noW ws)).2=hh;have e2:=e1.1;clear e1;generalize (gD now ⟨free,rs,[]⟩ (dX ho noW ws)).1=s at *;generalize (gD now ⟨free,rs',[]⟩ (dX ho noW ws)).1=t at *;unfold kQ;split
 ·exact e2.ends now _ _
 ·have⟨r1,r2⟩:=YJ.rank now (gQ ho ws) e2;grind[YJ.ends]
theorem ade {l m:List Rn} (h:l.Perm m):fG l=fG m:=by
 induction h with
 | nil=>rfl
 | cons x _ ih=>simp only[fG,ih]
 | swap x y l=>simp only[fG];omega
 | trans _ _ h1 h2=>omega
def ahU {now free ho:Int} {ws:List Wt} {rs rs':List Rn} (h:rs.Perm rs'):Vl now free ws ho rs=Vl now free ws ho rs':=by
 grind[Vl,ED,ade]
end Pq.Pr
namespace Pq.Pr
def OV (l:List Wt) (j:Int):Option Wt:=l.find? fun w=>decide (w.job=j)
theorem EF {ws:List Wt} (hu:(ws.map Wt.job).Nodup) {w:Wt} (hw:w∈ws):OV ws w.job=some w:=by
 unfold OV
 cases hf:ws.find? (fun x=>decide (x.job=w.job))with
 | none=>grind
 | some y=>grind[OT]
structure Whole (now free:Int) (ws:List Wt) (ho:Int) (rs:List Rn) (p:Pln) (st:List Wt) (Y:Int):Prop where
 sts:p.st=st.map Wt.job
 len:st.length<=256
 each:∀i w,st[i]?=some w->OV ws w.job=some w/\w.nd<=free - o9 (st.take i)/\w.job≠p.ho/\((st.take i).map Wt.job).contains w.job=false
 pos:∀w∈st,1<=w.nd/\w.nd<=256/\1<=w.lm/\w.lm<=1048576
 nn:0<=free - o9 st
 old:∀h0,OV ws ho=some h0->(h0.nd<=free->∃t,p.st=ho::t)/\(free<h0.nd->p.ho=ho)
 over:p.ho<0->p.ho= -1/\p.sh=0/\p.ex=0/\st.length=ws.length
 hold:0<=p.ho->∃h,OV ws p.ho=some h/\free - o9 st<h.nd/\aX now (free - o9 st) (rs++st.map (rOf now)) h.nd=some ⟨p.sh,Y+h.nd⟩/\Y<=p.ex
 rest:0<=p.ho->∀w∈ws,w.job≠p.ho->p.st.contains w.job=false->free - o9 st<w.nd\/(p.sh<now+w.lm/\Y<w.nd)
def xZ {now free ho:Int} {ws:List Wt} {rs:List Rn} (hc:Chk now free ws ho rs):∃st Y,Whole now free ws ho rs (jK now free ws ho rs) st Y:=by
 have⟨pre,f,rest,h,Y,s,hd⟩:=OU hc;obtain⟨⟨f0,f1⟩,_⟩:=fP.1 hc.rt;have hg:=hd.good;have key:(s.st.map Wt.job).Nodup/\(∀w∈s.st,w∈ws)/\(∀w∈s.st,w.job≠h.job):=by
  by_cases hj:h.job= -1
  ·obtain ⟨_,_,e,hp⟩:=hd.over hj;have e2:s.st=pre:=(by rw[hd.ps,e,vW]);rw[e2];refine⟨(hp.map Wt.job).nodup_iff.2 hc.un,fun w hw=>hp.mem_iff.1 hw,fun w hw=>?_⟩;have:=hc.wt w (hp.mem_iff.1 hw);omega
  ·obtain ⟨hp,hs,_⟩:=hd.hold hj;have hn:=(hp.map Wt.job).nodup_iff.2 hc.un;rw[hd.ps];grind
 obtain⟨k1,k2,k3⟩:=key;have hsp:=hg.fr;have hhj:h.job= -1\/0<=h.job:=by
  by_cases hj:h.job= -1
  ·omega
  ·have hp:=(hd.hold hj).1;have:=hc.wt h (hp.mem_iff.1 dF);omega
 refine⟨s.st,Y,hd.st,?_,fun i w hi=>?_,fun w hw=>?_,?_,fun h0 hf=>?_,fun hneg=>?_,fun hpos=>?_,fun hpos w hw hwh hns=>?_⟩
 ·have:=ahS hg;omega
 ·have hw:=dW hi;refine⟨EF hc.un (k2 w hw),hg.fit i w hi,by grind[Done.hh],?_⟩;grind[Fq]
 ·have:=hc.wt w (k2 w hw);omega
 ·have:=hg.nn;omega
 ·have hm:=JX hf;have hj:=jY (List.find?_some (p:=fun w:Wt=>decide (w.job=ho)) hf);have⟨a,b⟩:=hd.first h0 hm hj;refine⟨fun hle=>?_,fun hlt=>?_⟩
  ·have⟨t,ht⟩:=a hle;rw[hd.st,hd.ps,ht];simp_all
  grind[Done.hh]
 ·rw[hd.hh]at hneg ⊢;have hj:h.job= -1:=ak;have⟨e1,e2,e3,hp⟩:=hd.over hj;refine⟨hj,e1,e2,?_⟩;rw[hd.ps,e3,vW];exact hp.length_eq
 ·rw[hd.hh]at hpos ⊢;have⟨hp,hs,h1,h2,h3,h4,h5⟩:=hd.hold ak;grind[Good.rs,EF,Chk.un]
 ·rw[hd.hh]at hpos hwh;have⟨hp,hs,h1,h2,h3,h4,h5⟩:=hd.hold ak;rw[hd.st,List.contains_eq_mem,JJ]at hns;rw[← hsp];have hm:=hp.mem_iff.2 hw;rcases pX.1 hm with k | k
  ·exact absurd (jH.2 ⟨w,by rw[hd.ps];grind,rfl⟩) hns
  ·rcases lZ.1 k with e | k
   ·grind
   ·rcases h5 w k with e | e
    ·exact absurd (jH.2 ⟨w,by rw[hd.ps];grind,rfl⟩) hns
    omega
end Pq.Pr
end Go.Proofs.YtdhifkbbjlhcaaaGreatDoor
