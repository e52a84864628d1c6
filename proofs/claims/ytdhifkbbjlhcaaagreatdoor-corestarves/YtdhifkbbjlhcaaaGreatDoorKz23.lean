import Derived.Test.YtdhifkbbjlhcaaaGreatDoorKz22
import Derived.Test.YtdhifkbbjlhcaaaGreatDoorKz13
set_option maxRecDepth 20000
set_option maxHeartbeats 4000000
set_option linter.defProp false
namespace Go.Proofs.YtdhifkbbjlhcaaaGreatDoor
open Go.Proofs.Tryz
variable {a:Tr.Ac} {ks xs:List Nat} {kv v:Value} {l:List Tr.Ac} {m n t:Nat} {nm pn s:ByteArray} {w:ay}
section
open Go.RowKit Tr
namespace Tr
def QX (n:Nat) (p:Nat->Bool):((List.range n).filter p).Pairwise (· < ·):=PN _ List.pairwise_lt_range
theorem o7 (l:List Ac) (n:Nat):(dG l n).Pairwise (· < ·):=QX _ _
theorem Et (h:xs.Pairwise (· < ·)):xs.Nodup:=h.imp (fun h=>by omega)
theorem qA (h:Wf l) {n j:Nat}:j∈dG l n↔j<l.length/\wI l n j:=by
 grind[dG,Wf.dQ]
structure QY (l:List Ac) (n:Nat) (zs bs:List Nat):Prop where
 nodup:bs.Nodup
 mem:∀j,j∈bs↔j<l.length/\(j=n\/∃k∈zs,wI l k j)
theorem QY.start (hn:n<l.length):QY l n [] [n] where
 nodup:=dF
 mem j:=by
  grind
def QY.step (h:Wf l) (hn:n<l.length) {zs bs:List Nat} (hz:∀k∈zs,k∈dh l n) (c:QY l n zs bs) {k:Nat} (hk:k∈dh l n) (hkz:k∉zs):QY l n (zs++ [k]) (bs++dG l k) where
 nodup:=by
  rw[List.nodup_append]
  refine⟨c.nodup,Et (o7 l k),fun x hx y hy e=>?_⟩
  subst e
  have⟨h1,h2⟩:=(qA h).1 hy
  grind[mem,sM,AX,dh,dG]
 mem j:=by
  grind[mem,qA]
def QY.done (h:Wf l) {zs bs:List Nat} (hz:∀k,k∈zs↔k∈dh l n) (c:QY l n zs bs):(dG l n).Perm bs:=by
 grind[JO,Et,o7,nodup,qA,mem,uR,nL,sM]
end Tr
def K6 {B:Nat} (h:w.ownsRow B 3 1 v xs.length (ints xs)):∃ao c,v=.slice ao xs.length c/\(ao=none->xs.length=0/\c=0)/\∀ad,ao=some ad->∀j u,(ints xs)[j]?=some u->w.cell? (ad.add j)=some u:=by
 rcases h.2 with⟨rfl,h0⟩ | ⟨g,cap,cur,rfl,r⟩
 ·grind
 ·refine ⟨_,cap,rfl,fun e=>(by grind),fun ad e=>?_⟩
  cases e;exact h.cells (g:=g) rfl
def ahk (xs:List Nat):∀u∈ints xs,u.oneCell'=true:=by
 intro u hu;obtain⟨k,_,rfl⟩:=jH.1 hu;rfl
def K7 (xs:List Nat):(ints xs).length=xs.length:=by simp[ints]
def aqx (hw:Wf l):∀(f:Nat) {W:ay} (_:PT W t v m kv ks l (gP l)) {n d:Nat} (_:lX l d n) (_:n<l.length) (_:4<d+f),
  Calls prog 115 #[.pointer (some ⟨t,0,none⟩),.int .i64 n] W fun e w'=>∃v,e=.returned v/\w'.ownsRow W.heap.size 3 1 v (dG l n).length (ints (dG l n))/\Z W w':=by
 intro f;induction f with
 | zero=>intro W h n d hd hn hf;have⟨d',h1,h2⟩:=hw.deep n hn;have:=lC hd h2;omega
 | succ f ih=>
 intro W h n d hd hn hf;have hh:=Ei h n;have hth:jL l (n:Int)=true:=by simp[jL,hn]
 rw[hth]at hh;have⟨Wa,hWa⟩:=aZ (W.alloc (.cells #[.int .i64 (n:Int)] 3));have bA:Z W Wa:=by rw[← hWa];exact(aI _ W).alloc (aC _) _
 have rA:Wa.ownsRow W.heap.size 3 1 (.slice (some ⟨W.heap.size,0,none⟩) 1 1) [n].length (ints [n]):=by rw[← hWa];exact⟨rfl,.inr ⟨W.heap.size,1,#[.int .i64 (n:Int)],rfl,aC _,aK W _,aC _,by decide,rfl,rfl⟩⟩
 have hA:=h.below bA;obtain⟨k,hk⟩:∃k,ks[n]?=some k:=⟨_,aY (by rw[h.Qw];exact hn)⟩;have⟨D,hD1,hD2⟩:=hA.kids n k hk;obtain⟨ao,c,rfl,_,_,c2,_⟩:=hA.cells;obtain⟨kg,kc,rfl,e0,_⟩:=hA.agb hk;have hn':(n:Int)<l.length:=ak;have hlen:=hw.len;have⟨i0,hi0,hz0,hz1,hz2⟩:=fA Tryz.akD;have hAs:=bA.size;have HD2:Hid _:=hD2;have HT:Hid _:=h;have BA:Hid _:=bA;have RA:Hid (Wa.ownsRow W.heap.size 3 1 (.slice (some ⟨W.heap.size,0,none⟩) 1 1) [n].length (ints [n])):=rA;clear h hth hk hD2 hA bA rA;go_enter func115,ntmps115;go_wp2_with fail
 refine hh.mono ?_;rintro e w1 ⟨rfl,rfl⟩;go_wp2_with (first
  | (at_range;refine wpList_range_own _ rfl _ 203 rfl 3 128 Kz underlying203 _ k 64 D rfl hD1 ?_;intro w0 hrg0 hg0 hs0))
 go_frame
 go_loopw [5] (fun p wr=>∃(left:Lit->Bool) (cnt:Nat) (zs bs:List Nat) (q:Value),q=p/\wr.ranges prog 3 unitElem k Wa.heap.size 64 D left cnt/\wr.ownsRow W.heap.size 3 1 q bs.length (ints bs)/\Coll (gP l n) left zs/\QY l n zs bs/\Z W wr)
  (fun _ wr=>wr.rangeLeft k Wa.heap.size)
 case atStart=>exact⟨_,_,[],[n],_,rfl,hrg0,row_of RA.out (fun j hj=>hg0.block j (mV RA.out j hj).2 dF),Coll.start HD2.out,QY.start hn,BA.out.grown hg0 BA.out.size (fun j e=>by cases e)⟩
 case round=>
  obtain⟨left,cnt,zs,bs,q,hq,hrg,hrow,hC,hBC,hB⟩:=hrel;subst hq;have hbl:=ahh hBC.nodup (fun j hj=>gL ((hBC.mem j).1 hj).1 hlen);have tq:=iG hrow;have aqy:∀j,q.ownBlock=some j->j≠Wa.heap.size/\j≠k:=fun j hj=>by
   have⟨cs,hc⟩:=tq j hj;refine⟨fun e=>ahi hrg _ _ _ (e▸hc),fun e=>?_⟩;have⟨es,c,hm⟩:=Bc hrg.owns;rw[e,hm]at hc
   cases hc
  have hm0:=hrg.left_eq;have HC:Hid _:=hC;have HBC:Hid _:=hBC;have HB:Hid _:=hB;clear hC hB tq hBC;go_wp2_with (first
   | (at_next;refine ahj rfl _ rfl k Wa.heap.size 64 D left cnt rfl hrg ?_ ?_))
  ·intro hc0 hl0;have hmem:=HC.out.done hl0;have hperm:=HBC.out.done hw (fun j=>by rw[hmem j,z8]);have hso:=Am hrow hbl hperm ((o7 l n).imp (fun h=>by omega));clear hrg hmem hperm hl0 hc0 hm0;go_wp2_with fail
   refine hso.mono ?_;rintro e w3 ⟨rfl,hr3,hg3⟩;go_wp2;go_ret;exact⟨q,rfl,hr3,HB.out.grown hg3 HB.out.size (fun j e=>(hrow.lt j e).1)⟩
  ·intro x w2 cnt2 hlx hrg2 hlt hg2 hs2 hen;obtain⟨j,rfl,hPj,hnz,hC2⟩:=HC.out.step hlx;have hjk:=z8.1 hPj;have hjl:=Jq hPj;have auN:=HBC.out.step hw hn (fun i hi=>z8.1 ((HC.out.mem i).1 hi).1) hjk hnz;have hrow2:=row_of hrow (fun i hi=>hg2.block i (hrow.lt i hi).2 (fun e=>(aqy i hi).1 (ji e)));have hB2:=HB.out.grown hg2 HB.out.size (fun i e=>by cases e;exact hAs);have hrec:=ih (HT.out.below hB2) (qF hw hjk hd) hjl ak;have HR2:Hid (w2.ranges prog 3 unitElem k Wa.heap.size 64 D (fun z=>left z&& !z.sameKey (.int .i64 (j:Int))) cnt2):=hrg2;have Sq:Hid _:=hC2;have azN:Hid _:=auN;have HB2:Hid _:=hB2;have aFM:=ahh (Et (o7 l j)) (fun i hi=>gL ((qA hw).1 hi).1 hlen);clear hrow hrg hlx hC2 hrg2 hB2 hs2 auN ih;go_wp2_with (first
    | (go_at_call 115;refine hrec.mono ?_;rintro e w3 ⟨v3,rfl,hr3,hb3⟩;obtain⟨ao3,c3,rfl,hn3,hs3⟩:=K6 hr3;have hrow3:=eG hrow2 hb3;have HS3:Hid _:=hs3;have HN3:Hid _:=hn3;clear hs3 hn3 hr3)
    | (at_builtin;refine jR rfl (.tmp 25) (.tmp 28) 36 rfl W.heap.size 3 i0 _ 1 8 underlying36 hi0 hz0 hz1 hz2 rfl aT q bs.length (ints bs) rfl hrow3 ao3 (dG l j).length c3 (ints (dG l j)) rfl HN3.out ?_ HS3.out (ahk _) ?_ ?_ ?_ ?_;(rw[K7];omega);exact(bM (m:=35184372088832) ak aT);omega;exact(bM HB2.out.size hb3.size);intro v' w5 hown hgr))
   have hrg3:=World.ranges.kept (row:=none) HR2.out ⟨hb3.os,hb3.tape,hb3.output,hb3.size,fun i hi _=>hb3.block i hi⟩ dF dF;have auO:=hrg3.kept hgr (fun e=>(aqy k e.symm).2 rfl) (fun e=>(aqy _ e.symm).1 rfl);go_roundw
   case rel=>exact⟨_,cnt2,zs++ [j],bs++dG l j,v',rfl,auO,by simpa [ints]using hown,Sq.out,azN.out,(HB2.out.trans (hb3.mono HB2.out.size)).grown hgr (bM HB2.out.size hb3.size) (fun i e=>(hrow2.lt i e).1)⟩
   case measure=>rw[auO.left_eq,hm0];exact hlt
def wM {B:Nat} (h:w.ownsRow B 3 1 v xs.length (ints xs)) (hl:xs.length<=64) (p:Nat):
  Calls prog 194 #[v,J p] w fun e w'=>(∃i:Int,e=.returned (J i)/\decide (0<=i)=decide (p∈xs))/\w=w':=by
 obtain⟨ao,c,rfl,hn,hs⟩:=K6 h;have⟨q,hq⟩:=aZ xs.length;have hcell:∀k x:Nat,xs[k]?=some x->∃g,ao=some ⟨g,0,none⟩/\w.cell? ⟨g,k,none⟩=some (J (x:Int)):=by
  intro k x hx;rcases h.2 with⟨_,h0⟩ | ⟨g,cap,cur,hv,r⟩
  ·have:=(bO.1 hx).1;omega
  ·simp at hv;obtain⟨rfl,_⟩:=hv;have:=hs _ rfl k (J (x:Int)) (by simp[ints,hx]);exact aol
 clear h hn hs;rw[hq]at hl ⊢;go_enter func194,ntmps194;go_wp2;go_loopg [8] q (fun gk pv wr=>∃j:Nat,j+gk=q/\pv=J j/\w=wr/\∀i x,i<j->xs[i]?=some x->x≠p)
 case atStart=>exact⟨0,by omega,rfl,rfl,fun i x hi=>by omega⟩
 case round=>
  obtain⟨j,hj,rfl,rfl,hinv⟩:=hrel;by_cases hlt:j<q
  ·have hlt':(j:Int)<q:=ak;obtain⟨x,hx⟩:∃x,xs[j]?=some x:=⟨_,aY ak⟩;obtain⟨g,rfl,hc⟩:=hcell j x hx;have QA:Hid _:=hinv;clear hcell hinv;by_cases e:x=p
   ·subst e;have hmem:=dW hx;go_wp2;go_ret;exact⟨⟨j,rfl,by simp[hmem]⟩,rfl⟩
   ·have e':((p:Int)==(x:Int))=false:=fE;go_wp2;go_roundg (q - (j+1))
    case measure=>omega
    case rel=>
     refine⟨j+1,by omega,rfl,rfl,fun i y hi hy=>?_⟩;by_cases hij:i=j
     ·subst hij;rw[hx]at hy
      cases hy;exact e
     ·exact QA.out i y ak hy
  ·exact anL
def oW {B:Nat} (h:w.ownsRow B 3 1 v xs.length (ints xs)) (hl:xs.length<=64) (p:Nat):
  Calls prog 154 #[v,J p] w fun e w'=>e=.returned (.bool (decide (p∈xs)))/\w=w':=by
 have hi:=wM h hl p;obtain⟨ao,c,rfl⟩:=bE h;clear h;exact anQ
def K8 {W:ay} (h:PT W t v m kv ks l (gP l)) (hw:Wf l) (n:Int):
  Calls prog 115 #[.pointer (some ⟨t,0,none⟩),J n] W fun e w'=>∃v,e=.returned v/\w'.ownsRow W.heap.size 3 1 v (xP l n).length (ints (xP l n))/\Z W w':=by
 unfold xP
 cases hb:jL l n with
 | true=>
  obtain⟨h0,h1⟩:0<=n/\n<l.length:=by simpa [jL]using hb
  obtain⟨k,rfl⟩:∃k:Nat,n=k:=⟨n.toNat,by omega⟩;simp only[DT,gJ];obtain⟨d,_,hd⟩:=hw.deep k ak;exact aqx hw 5 h hd ak ak
 | false=>
  have hh:=Ei h n;rw[hb]at hh;clear h;go_enter func115,ntmps115;go_wp2_with fail
  refine hh.mono ?_;rintro e w1 ⟨rfl,rfl⟩;exact PZ
namespace Tr
def UK {a a':Ac} (ha:l[n]?=some a) (hp:a'.pa=a.pa):gP (l.set n a')=gP l:=by
 grind[gP]
def acp (h:Wf l) (j:Nat):gP l l.length j=false:=by
 cases hk:gP l l.length j with
 | false=>rfl
 | true=>
  have⟨a,ha,hp⟩:=zL.1 (z8.1 hk);by_cases h0:0<j
  ·have:=(h.row j a ha h0).2.2.1;omega
  grind[Wf.root,eH]
def ahl {p:Nat} (hp:a.pa=p):El (gP l) l.length p=gP (l++ [a]):=by
 grind[El,gP]
def alH (p:Int):ou (l++ [a]) l.length p=l++ [{a with pa:=p}]:=by
 grind[ou]
end Tr
def Mod (w w':ay) (t:Nat) (v:Value) (m:Nat) (kv:Value) (ks:List Nat) (l':List Ac):Prop:=
 ∃v' kv' ks',PT w' t v' m kv' ks' l' (gP l')/\aH (PK t v m kv ks) w w'/\∀j,PK t v' m kv' ks' j->PK t v m kv ks j\/w.heap.size<=j
theorem Mod.same {w w':ay} (h:PT w t v m kv ks l (gP l)) (b:Z w w'):Mod w w' t v m kv ks l:=⟨v,kv,ks,h.below b,aH.of_below b _,fun _ hj=>.inl hj⟩
def Mod.here {w w':ay} (h:PT w' t v m kv ks l (gP l)) (c:aH (PK t v m kv ks) w w'):Mod w w' t v m kv ks l:=⟨v,kv,ks,h,c,fun _ hj=>.inl hj⟩
def Yh (h:PT w t v m kv ks l (gP l)) (hs:s.size<=maxLen) (sh:Int):
  Calls prog 110 #[.pointer (some ⟨t,0,none⟩),.string s,J sh] w fun e w'=>e=.returned (J (dO l s sh).1)/\Mod w w' t v m kv ks (dO l s sh).2:=by
 have hk:=C9 h hs;have hsh:=Ho sh w;obtain⟨⟨n,er⟩,hkv⟩:∃p,jr l s=p:=⟨_,rfl⟩;rw[hkv]at hk;simp only at hk;by_cases he:er=0
 ·subst he;have⟨hf,hn0⟩:=qg hkv;obtain⟨⟨a,ha,_⟩,_⟩:=nU hf;have hnl:=(bO.1 ha).1
  cases hok:zJ sh with
  | false=>
   have hv:dO l s sh=(63,l):=by unfold dO;rw[hkv];simp[hok]
   rw[hok]at hsh;rw[hv];have H:Hid _:=h;clear h;go_enter func110,ntmps110;go_wp2_with fail
   refine hk.mono ?_;rintro e w1 ⟨rfl,rfl⟩;go_wp2_with fail
   refine hsh.mono ?_;exact afd
  | true=>
   have hv:dO l s sh=(0,l.set n {a with sh:=sh}):=by unfold dO;rw[hkv];simp[hok,ha]
   rw[hok]at hsh;rw[hv];obtain⟨ao,c,rfl,c0,_,_,_⟩:=h.cells;have⟨g,c',hvv,⟨d0,d1,d2,d3,d4⟩,hfr⟩:=h.Z_ ha
   cases hvv;obtain⟨h1,ch1⟩:=h.ap2 (g:=g) rfl (Tp l n a sh ha) dF (fun x=>Ej (a':={a with sh:=sh}) ha rfl x);rw[← UK (a':={a with sh:=sh}) ha rfl]at h1;have hn':(n:Int)<l.length:=ak;have HM:Hid _:=Mod.here h1 ch1;clear h h1 ch1;go_enter func110,ntmps110;go_wp2_with fail
   refine hk.mono ?_;rintro e w1 ⟨rfl,rfl⟩;go_wp2_with fail
   refine hsh.mono ?_;rintro e w1 ⟨rfl,rfl⟩;go_wp2;go_ret;exact⟨rfl,HM.out⟩
 ·have hv:dO l s sh=(er,l):=by unfold dO;exact ae_
  rw[hv];have H:Hid _:=h;clear h;go_enter func110,ntmps110;exact ae6
def Yi (h:PT w t v m kv ks l (gP l)) (hs:s.size<=maxLen):
  Calls prog 112 #[.pointer (some ⟨t,0,none⟩),.string s] w fun e w'=>e=.returned (J (gK l s).1)/\Mod w w' t v m kv ks (gK l s).2:=by
 have hk:=C9 h hs;obtain⟨⟨n,er⟩,hkv⟩:∃p,jr l s=p:=⟨_,rfl⟩;rw[hkv]at hk;simp only at hk;by_cases he:er=0
 ·subst he;have⟨hf,hn0⟩:=qg hkv;obtain⟨⟨a,ha,_⟩,_⟩:=nU hf;have hnl:=(bO.1 ha).1;have hv:gK l s=(0,l.set n {a with cl:=true}):=by unfold gK;rw[hkv];simp[ha]
  rw[hv];obtain⟨ao,c,rfl,c0,_,_,_⟩:=h.cells;have⟨g,c',hvv,⟨d0,d1,d2,d3,d4⟩,hfr⟩:=h.Z_ ha
  cases hvv;obtain⟨h1,ch1⟩:=h.ap2 (g:=g) rfl (Tq l n a true ha) dF (fun x=>Ej (a':={a with cl:=true}) ha rfl x);rw[← UK (a':={a with cl:=true}) ha rfl]at h1;have hn':(n:Int)<l.length:=ak;have HM:Hid _:=Mod.here h1 ch1;clear h h1 ch1;go_enter func112,ntmps112;go_wp2_with fail
  refine hk.mono ?_;rintro e w1 ⟨rfl,rfl⟩;go_wp2;go_ret;exact⟨rfl,HM.out⟩
 ·have hv:gK l s=(er,l):=by unfold gK;exact ae_
  rw[hv];have H:Hid _:=h;clear h;go_enter func112,ntmps112;exact ae6
def alI {sh:Int} (h:IX l nm (bq l pn).isSome sh≠0):dJ l nm pn sh=(0,IX l nm (bq l pn).isSome sh,l):=by
 grind[IX,dJ]
def ahm {sh:Int} (h:IX l nm (bq l pn).isSome sh=0):j_ nm=true/\bq l nm=none/\(∃p,bq l pn=some p)/\zJ sh=true:=by
 unfold IX at h;by_cases h1:j_ nm=false
 ·grind
 ·by_cases h2:(bq l nm).isSome=true
  ·grind
  ·cases h3:bq l pn with
   | none=>grind
   | some p=>simp_all
def ahn (h:PT w t v m kv ks l (gP l)) (hw:Wf l) (hs:nm.size<=maxLen) (hp:pn.size<=maxLen) (sh:Int):
  Calls prog 108 #[.pointer (some ⟨t,0,none⟩),.string nm,.string pn,J sh] w fun e w'=>e=.returned (.tuple #[J (dJ l nm pn sh).1,J (dJ l nm pn sh).2.1])/\Mod w w' t v m kv ks (dJ l nm pn sh).2.2:=by
 have hf:=Bb h hp;have hr:=Hr h hs (bq l pn).isSome sh;by_cases hz:IX l nm (bq l pn).isSome sh=0
 ·have⟨y1,y2,⟨p,y3⟩,y4⟩:=ahm hz;rw[hz]at hr;rw[y3]at hf hr;simp only[pW,Ck]at hf hr;have hpl:=uQ y3;have⟨d,d1,d2,d3⟩:=hw.depth hpl;have hd:=KC h hw (p:Int);have hdz:abl l (p:Int)=d:=by unfold abl;rw[show jL l (p:Int)=true by simp[jL,hpl]];simp[d1,afz]
  rw[hdz]at hd;have hln:=af8 h;by_cases hd4:d=4
  ·have hv:dJ l nm pn sh=(0,64,l):=by unfold dJ;simp[y1,y2,y3,y4,d1,hd4]
   subst hd4;rw[hv];have H:Hid _:=h;clear h;go_enter func108,ntmps108;go_wp2_with fail
   refine hf.mono ?_;rintro e w1 ⟨rfl,rfl⟩;go_wp2_with fail
   refine hr.mono ?_;rintro e w1 ⟨rfl,rfl⟩;go_wp2_with fail
   refine hd.mono ?_;exact WY
  ·have aFN:((d:Int)==4)=false:=fE;have hlen:=hw.len;by_cases F8:l.length=64
   ·have hv:dJ l nm pn sh=(0,65,l):=by unfold dJ;have:¬4<=d:=ak;simp[y1,y2,y3,y4,d1,this,F8]
    rw[hv];rw[F8]at hln;have H:Hid _:=h;clear h F8;go_enter func108,ntmps108;go_wp2_with fail
    refine hf.mono ?_;rintro e w1 ⟨rfl,rfl⟩;go_wp2_with fail
    refine hr.mono ?_;rintro e w1 ⟨rfl,rfl⟩;go_wp2_with fail
    refine hd.mono ?_;rintro e w1 ⟨rfl,rfl⟩;go_wp2_with fail
    refine hln.mono ?_;exact WY
   ·have aCG:((l.length:Int)==64)=false:=fE;have hv:dJ l nm pn sh=((l.length:Int),0,l++ [⟨nm,p,sh,false,0⟩]):=(by unfold dJ;have h1:¬4<=d:=ak;have h2:¬64<=l.length:=ak;simp[y1,y2,y3,y4,d1,h1,h2]);rw[hv];have ap3:=Qx h ⟨nm,0,sh,false,0⟩ hs y2 ak (acp hw);clear hv;go_enter func108,ntmps108;go_wp2_with fail
    refine hf.mono ?_;rintro e w1 ⟨rfl,rfl⟩;go_wp2_with fail
    refine hr.mono ?_;rintro e w1 ⟨rfl,rfl⟩;go_wp2_with fail
    refine hd.mono ?_;rintro e w1 ⟨rfl,rfl⟩;go_wp2_with fail
    refine hln.mono ?_;rintro e w1 ⟨rfl,rfl⟩;go_wp2_with fail
    refine ap3.mono ?_;rintro e w1 ⟨rfl,v1,kv1,k1,h1,ch1,nw1⟩;have UL:=KE h1 (n:=l.length) (p:=p) fE dF fE (fun j hj=>by have:=Jq hj;omega);rw[alH,ahl (a:=⟨nm,p,sh,false,0⟩) (p:=p) rfl]at UL;go_wp2_with fail
    refine UL.mono ?_;rintro e w2 ⟨rfl,h2,ch2⟩;have HM:Hid _:=(⟨v1,kv1,ks++ [k1],h2,ch1.trans ch2 (fun i hi hj=>by rcases nw1 i hj with h | h;exact h;omega),nw1⟩:Mod w w2 t v m kv ks (l++ [⟨nm,p,sh,false,0⟩]));go_wp2;go_ret2
    exact⟨rfl,HM.out⟩
 ·rw[alI hz];have⟨er,her⟩:=aZ (IX l nm (bq l pn).isSome sh);rw[her]at hr hz ⊢;have hz':((er:Int)==0)=false:=by simp[hz]
  have H:Hid _:=h;clear h her;go_enter func108,ntmps108;go_wp2_with fail
  refine hf.mono ?_;rintro e w1 ⟨rfl,rfl⟩;go_wp2_with fail
  refine hr.mono ?_;exact WY
namespace Tr
def acr {n p:Nat} (h:Wf l) (ha:l[n]?=some a) (hn:n≠0) (hp:p<l.length) (hb:¬wI l n p) {dn dp:Nat} (hdn:lX l dn n) (hdp:lX l dp p):
  rP (ou l n p)=(dG l n).any fun i=>decide ((4:Int)<(((fV l i).getD 0:Nat):Int)+((dp:Int)+1 - dn)):=by
 have hup:up (ou l n p) n=p:=by grind[up,ou]
 have hnn:lX (ou l n p) (dp+1) n:=by grind[lX,Ka]
 have key:∀i,i<l.length->(4<(fV (ou l n p) i).getD 0↔wI l n i/\(4:Int)<(((fV l i).getD 0:Nat):Int)+((dp:Int)+1 - dn)):=by
  intro i hi;have⟨d,d1,d2,d3⟩:=h.depth hi;by_cases hbi:wI l n i
  ·obtain ⟨s,hs⟩:=hbi;have⟨h1,h2⟩:=DZ hs d3;have:=lC hdn h2;have h3:=afv p hnn hs;have h4:=AU (Kc h ha hp) (by rw[vM];exact hi) h3;grind[wI]
  grind[Ka,AU,Kc,vM]
 grind[rP,vM,qA]
def acu {n p q:Nat} (ha:l[n]?=some a) (hq:a.pa=q):El (Uh (gP l) n q) n p=gP (ou l n p):=by
 grind[El,Uh,gP,ou]
end Tr
def aho {P:Program} {ops:Array Oper} {o:Oper} {a:Act} {w:ay} {K:Act->World->Prop} {Q:Exit->Act->World->Prop} {E:Prop} (hgd:o.guard=none) (m x:Operand) (t k:TypeId)
  (ho:o.op=.call {callee:=.builtin .delete,args:= #[m,x],argTypes:= #[t,k]}) (vm vx:Value) (hm:a.eval m=vm) (hx:a.eval x=vx) (R:ay->Prop)
  (hrun:∃w',(Builtin.delete_ #[t,k] o.type #[vm,vx]).run P w=.ok (.tuple #[]) w'/\R w') (hK:∀w',R w'->K (a.put o.dst (.tuple #[])) w'):
  if Region.wanted o (yielded ops a.tmps)=true then Oper.wp P o a w K Q else E:=by
 have hw:Region.wanted o (yielded ops a.tmps)=true:=by grind[Region.wanted]
 rw[aJ hw];obtain⟨w',hr,h2⟩:=hrun;unfold Oper.wp;simp[execOp,ho,resolve,invoke,builtin,hm,hx,hr,Result.andThen];exact hK _ h2
def acv (h:PT w t v m kv ks l (gP l)) (hw:Wf l) (hs:nm.size<=maxLen) (hp:pn.size<=maxLen):
  Calls prog 111 #[.pointer (some ⟨t,0,none⟩),.string nm,.string pn] w fun e w'=>e=.returned (J (h_ l nm pn).1)/\Mod w w' t v m kv ks (h_ l nm pn).2:=by
 have hk:=C9 h hs;have hf:=Bb h hp;obtain⟨⟨n,er⟩,hkv⟩:∃p,jr l nm=p:=⟨_,rfl⟩;rw[hkv]at hk;simp only at hk;by_cases he:er=0
 ·subst he;have⟨hfn,hn0⟩:=qg hkv;obtain⟨⟨a,ha,_⟩,_⟩:=nU hfn;have hnl:=(bO.1 ha).1
  cases hfp:bq l pn with
  | none=>
   have hv:h_ l nm pn=(62,l):=by unfold h_;rw[hkv];simp[hfp]
   rw[hfp]at hf;simp only[Option.getD_none,PI]at hf;rw[hv];have H:Hid _:=h;clear h;go_enter func111,ntmps111;go_wp2_with fail
   refine hk.mono ?_;rintro e w1 ⟨rfl,rfl⟩;go_wp2_with fail
   refine hf.mono ?_;exact afd
  | some p=>
   rw[hfp]at hf;simp only[pW,Ck]at hf;have hpl:=uQ hfp;have hbl:=K8 h hw (n:Int);have hbz:xP l (n:Int)=dG l n:=(by unfold xP;rw[show jL l (n:Int)=true by simp[jL,hnl]];simp);rw[hbz]at hbl;have auP:=ahh (Et (o7 l n)) (fun i hi=>gL ((qA hw).1 hi).1 hw.len);have hmv:h_ l nm pn=if Bz l n l.length p then(67,l)else if rP (ou l n p)then(64,l)else(0,ou l n p):=(by unfold h_;rw[hkv];simp[hfp]);have hbe:decide (p∈dG l n)=Bz l n l.length p:=(by rw[JQ,decide_eq_true_iff];unfold dG;rw[xJ,GZ];simp[hpl]);have⟨M,hM⟩:=aZ (h_ l nm pn);rw[hM]at hmv ⊢;have QZ:Hid (M=if Bz l n l.length p then(67,l)else if rP (ou l n p)then(64,l)else(0,ou l n p)):=hmv;clear hmv hkv hfn hM;have H:Hid _:=h;clear h;go_enter func111,ntmps111;go_wp2_with fail
   refine hk.mono ?_;rintro e w1 ⟨rfl,rfl⟩;go_wp2_with fail
   refine hf.mono ?_;rintro e w1 ⟨rfl,rfl⟩;go_wp2_with fail
   refine hbl.mono ?_;rintro e w1 ⟨vb,rfl,hrow,hB1⟩;have h1:=H.out.below hB1;have hct:=oW hrow auP p;rw[hbe]at hct;obtain⟨ao,c,rfl,hn3,hs3⟩:=K6 hrow;go_wp2_with fail
   refine hct.mono ?_;rintro e w2 ⟨rfl,rfl⟩
   cases hbp:Bz l n l.length p with
   | true=>
    have HE:Hid (M=(67,l)):=show M=(67,l) by rw[QZ.out,hbp];rfl
    clear h1 QZ;exact aoG
   | false=>
    have hnb:¬wI l n p:=fun hh=>by rw[(hw.dQ n hpl).2 hh]at hbp;cases hbp
    have⟨dn,dn1,dn2,dn3⟩:=hw.depth hnl;have⟨dp,dp1,dp2,dp3⟩:=hw.depth hpl;have apa:=acr hw ha hn0 hpl hnb dn3 dp3;have M_:∀i,i<l.length->Calls prog 150 #[.pointer (some ⟨t,0,none⟩),J (i:Int)] w1 fun e w'=>e=.returned (J (((fV l i).getD 0:Nat):Int))/\w1=w':=fun i hi=>by have:=KC h1 hw (i:Int);obtain⟨d,d1,_⟩:=hw.depth hi;have hz:abl l (i:Int)=(((fV l i).getD 0:Nat):Int):=(by unfold abl;rw[show jL l (i:Int)=true by simp[jL,hi]];simp[d1,afz]);rw[hz]at this;exact this
    have hd1:=M_ p hpl;have hd2:=M_ n hnl;rw[dp1]at hd1;rw[dn1]at hd2;simp only[pW]at hd1 hd2;have H1:Hid _:=h1;have aqz:Hid _:=M_;have apb:Hid _:=apa;have auQ:Hid _:=hs3;clear h1 M_ apa hs3 hn3 hk hf hbl hct;have HMW:Hid (M=if rP (ou l n p)then(64,l)else(0,ou l n p)):=show M=if rP (ou l n p)then(64,l)else(0,ou l n p) by rw[QZ.out,hbp];rfl
    clear QZ;go_wp2_with fail
    refine hd1.mono ?_;rintro e w2 ⟨rfl,rfl⟩;go_wp2_with fail
    refine hd2.mono ?_;rintro e w2 ⟨rfl,rfl⟩;go_wp2_with fail
    have⟨q,hq⟩:=aZ ((dG l n).length);obtain⟨F,hF⟩:∃F:Nat->Bool,F=fun i=>decide ((4:Int)<(((fV l i).getD 0:Nat):Int)+((dp:Int)+1 - dn)):=⟨_,rfl⟩;have hsrc:∀k x:Nat,(dG l n)[k]?=some x->∃g,ao=some ⟨g,0,none⟩/\w1.cell? ⟨g,k,none⟩=some (J (x:Int)):=by
     intro k x hx;rcases hrow.2 with⟨_,h0⟩ | ⟨g,cap,cur,hv,r⟩
     ·have:=(bO.1 hx).1;omega
     ·simp at hv;obtain⟨rfl,_⟩:=hv;have:=auQ.out _ rfl k (J (x:Int)) (by simp[ints,hx]);exact aol
    rw[hq]at auP;rw[hq];have HQ:Hid (rP (ou l n p)=(dG l n).any F):=show rP (ou l n p)=(dG l n).any F by rw[hF];exact apb.out
    have HSR:Hid _:=hsrc;have HR:Hid _:=hrow;clear hsrc auQ apb hrow;go_loopg [48] q (fun gk pv wr=>∃j:Nat,j+gk=q/\pv=J j/\w1=wr/\(dG l n).any F=((dG l n).drop j).any F)
    case atStart=>exact⟨0,by omega,rfl,rfl,by simp⟩
    case round=>
     obtain⟨j,hj,rfl,rfl,hinv⟩:=hrel;by_cases hlt:j<q
     ·have hlt':(j:Int)<q:=ak;obtain⟨x,hx⟩:∃x,(dG l n)[j]?=some x:=⟨_,aY ak⟩;obtain⟨g,rfl,hc⟩:=HSR.out j x hx;have hxl:=((qA hw).1 (dW hx)).1;have hcall:=aqz.out x hxl;have⟨dx,dx1,dx2,dx3⟩:=hw.depth hxl;have hdrop:((dG l n).drop j).any F=(F x||((dG l n).drop (j+1)).any F):=(by obtain⟨hj',rfl⟩:=bO.1 hx;rw[tu hj',List.any_cons]);rw[hdrop]at hinv;have hFx:F x=decide ((4:Int)<(dx:Int)+((dp:Int)+1 - dn)):=(by rw[hF];simp[dx1]);rw[dx1]at hcall;simp only[pW]at hcall;rw[hFx]at hinv;have QA:Hid _:=hinv;clear hinv hdrop hFx aqz HSR hx;go_wp2_with fail
      refine hcall.mono ?_;rintro e w2 ⟨rfl,rfl⟩;by_cases hbig:(4:Int)<(dx:Int)+((dp:Int)+1 - dn)
      ·have hdt:rP (ou l n p)=true:=by rw[HQ.out,QA.out];simp[hbig]
       have HE:Hid (M=(64,l)):=show M=(64,l) by rw[HMW.out,hdt];rfl
       clear hdt HMW HQ QA;exact aoG
      ·have HJ:Hid ((dG l n).any F=((dG l n).drop (j+1)).any F):=show (dG l n).any F=((dG l n).drop (j+1)).any F by rw[QA.out];simp[hbig]
       go_wp2;go_roundg (q - (j+1))
       case measure=>omega
       case rel=>exact⟨j+1,by omega,rfl,rfl,HJ.out⟩
     ·obtain rfl:j=q:=ak;have hno:rP (ou l n p)=false:=(by rw[HQ.out,hinv,vY ak];rfl);have HE:Hid (M=(0,ou l n p)):=show M=(0,ou l n p) by rw[HMW.out,hno];rfl
      clear hno HMW HQ;have⟨p0,p1⟩:=hw.apZ n a ha ak;obtain⟨pq,hpq⟩:∃pq:Nat,a.pa=pq:=⟨a.pa.toNat,by omega⟩;rw[hpq]at p1;obtain⟨k,hk⟩:∃k,ks[pq]?=some k:=⟨_,aY (by rw[H1.out.Qw];omega)⟩;obtain⟨Da,c',rfl,c0,_,c2,_⟩:=H1.out.cells;obtain⟨g,c'',hv,⟨d0,d1,d2,d3,d4⟩,_⟩:=H1.out.Z_ ha
      cases hv;obtain⟨kg,kc,rfl,e0,_⟩:=H1.out.agb hk;rw[hpq]at d1;have hdrop:=fun ty=>(H1.out.kept (W':=w1.drew) (fun _ _=>rfl)).dropped (n:=n) hk (by have:=hw.len;omega) ty;have hn':(n:Int)<l.length:=ak;have HDR:Hid _:=hdrop;clear hinv HSR aqz hdrop;go_upto_region 17 with fail
      go_cut [] (fun wc=>PT wc t (.slice (some ⟨g,0,none⟩) l.length c') m (.slice (some ⟨kg,0,none⟩) l.length kc) ks l (Uh (gP l) n pq)/\aH (PK t (.slice (some ⟨g,0,none⟩) l.length c') m (.slice (some ⟨kg,0,none⟩) l.length kc) ks) w1.drew wc)
      case first=>
       go_region_law (refine aho rfl (.tmp 72) (.tmp 73) 203 3 rfl (.map (some k)) (J (n:Int)) gM gM _ (HDR.out _) ?_;rintro wd ⟨z1,z2⟩)
       all_goals (go_wp2;go_meet)
       all_goals exact⟨z1,z2⟩
      case rest=>
       obtain⟨h2,ch2⟩:=hcut;have UL:=KE h2 (n:=n) (p:=p) hw.len hnl hpl (fun i hi=>by
        have:=hw.len
        unfold Uh at hi
        split at hi
        ·simp at hi
         have:=Jq hi.1
         omega
        ·have:=Jq hi
         omega)
       rw[acu ha hpq]at UL;clear h2;go_wp2_with fail
       refine UL.mono ?_;rintro e w3 ⟨rfl,h3,ch3⟩;have c13:=((aH.of_below hB1 _).drew.trans ch2 (fun _ _ h=>h)).trans ch3 (fun _ _ h=>h);have HM:Hid _:=Mod.here h3 c13;clear h3 ch3 ch2;go_wp2;go_ret;exact⟨by rw[HE.out];rfl,by rw[HE.out];exact HM.out⟩
 ·have hv:h_ l nm pn=(er,l):=by unfold h_;exact ae_
  rw[hv];have H:Hid _:=h;clear h;go_enter func111,ntmps111;exact ae6
def Mod.tree {S:Nat->Prop} {w w':ay} {l':List Ac} (h:Mod w w' t v m kv ks l') (hS:∀j,PK t v m kv ks j->S j):Tree (Ext S w.heap.size) w' t l' (gP l')/\aH S w w':=by
 grind[aH.mono,Tree,Ext,Mod]
section
variable {S:Nat->Prop} {w:ay} {t:Nat} {l:List Ac}
def azO (h:Tree S w t l (gP l)) (hw:Wf l) (hs:nm.size<=maxLen) (hp:pn.size<=maxLen) (sh:Int):
  Calls prog 108 #[.pointer (some ⟨t,0,none⟩),.string nm,.string pn,J sh] w fun e w'=>e=.returned (.tuple #[J (dJ l nm pn sh).1,J (dJ l nm pn sh).2.1])/\Tree (Ext S w.heap.size) w' t (dJ l nm pn sh).2.2 (gP (dJ l nm pn sh).2.2)/\aH S w w':=by
 obtain⟨v,m,kv,ks,h1,h2⟩:=h;exact(ahn h1 hw hs hp sh).mono fun e w' ⟨he,hm⟩=>⟨he,hm.tree h2⟩
def alJ (h:Tree S w t l (gP l)) (hs:s.size<=maxLen) (sh:Int):
  Calls prog 110 #[.pointer (some ⟨t,0,none⟩),.string s,J sh] w fun e w'=>e=.returned (J (dO l s sh).1)/\Tree (Ext S w.heap.size) w' t (dO l s sh).2 (gP (dO l s sh).2)/\aH S w w':=by
 obtain⟨v,m,kv,ks,h1,h2⟩:=h;exact(Yh h1 hs sh).mono fun e w' ⟨he,hm⟩=>⟨he,hm.tree h2⟩
def aqA (h:Tree S w t l (gP l)) (hs:s.size<=maxLen):
  Calls prog 112 #[.pointer (some ⟨t,0,none⟩),.string s] w fun e w'=>e=.returned (J (gK l s).1)/\Tree (Ext S w.heap.size) w' t (gK l s).2 (gP (gK l s).2)/\aH S w w':=by
 obtain⟨v,m,kv,ks,h1,h2⟩:=h;exact(Yi h1 hs).mono fun e w' ⟨he,hm⟩=>⟨he,hm.tree h2⟩
def auS (h:Tree S w t l (gP l)) (hw:Wf l) (hs:nm.size<=maxLen) (hp:pn.size<=maxLen):
  Calls prog 111 #[.pointer (some ⟨t,0,none⟩),.string nm,.string pn] w fun e w'=>e=.returned (J (h_ l nm pn).1)/\Tree (Ext S w.heap.size) w' t (h_ l nm pn).2 (gP (h_ l nm pn).2)/\aH S w w':=by
 obtain⟨v,m,kv,ks,h1,h2⟩:=h;exact(acv h1 hw hs hp).mono fun e w' ⟨he,hm⟩=>⟨he,hm.tree h2⟩
def apc (h:Tree S w t l (gP l)) (hs:s.size<=maxLen):Calls prog 100 #[.pointer (some ⟨t,0,none⟩),.string s] w fun e w'=>e=.returned (.tuple #[J ((bq l s).getD 0:Nat),.bool (bq l s).isSome])/\w=w':=by
 obtain⟨v,m,kv,ks,h1,h2⟩:=h;exact Bb h1 hs
def azP (h:Tree S w t l (gP l)) (hw:Wf l) (n:Int):Calls prog 185 #[.pointer (some ⟨t,0,none⟩),J n] w fun e w'=>e=.returned (akC l n)/\Z w w':=by
 obtain⟨v,m,kv,ks,h1,h2⟩:=h;exact af9 h1 (by have:=hw.len;omega) n
def aqB (h:Tree S w t l (gP l)) (hw:Wf l) (n:Int):Calls prog 115 #[.pointer (some ⟨t,0,none⟩),J n] w fun e w'=>∃v,e=.returned v/\w'.ownsRow w.heap.size 3 1 v (xP l n).length (ints (xP l n))/\Z w w':=by
 obtain⟨v,m,kv,ks,h1,h2⟩:=h;exact K8 h1 hw n
def apd (h:Tree S w t l (gP l)) (hw:Wf l):Calls prog 44 #[.pointer (some ⟨t,0,none⟩)] w fun e w'=>∃v,e=.returned v/\w'.ownsRow w.heap.size 58 5 v l.length (dP l)/\Z w w':=by
 obtain⟨v,m,kv,ks,h1,h2⟩:=h;exact abE h1 (by have:=hw.len;omega) (fun e=>by have:=hw.pos;rw[e]at this;simp at this)
end
namespace Tr
def aqC:Wf [eH] where
 root:=rfl
 len:=aT
 row i a h hi:=by
  grind
 uniq i j a b ha hb _:=by
  grind
 deep i hi:=by
  cases i with
  | zero=>exact⟨0,by decide,rfl⟩
  | succ i=>grind
end Tr
end
end Go.Proofs.YtdhifkbbjlhcaaaGreatDoor
