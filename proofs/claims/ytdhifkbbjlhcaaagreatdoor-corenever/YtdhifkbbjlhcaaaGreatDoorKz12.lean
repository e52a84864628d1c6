import Derived.Test.YtdhifkbbjlhcaaaGreatDoorKz5
import Derived.Maps.RangeWalk
import Derived.Deep.RegionLaw
set_option maxRecDepth 20000
set_option maxHeartbeats 2000000
set_option linter.defProp false
namespace Go.Proofs.YtdhifkbbjlhcaaaGreatDoor
open Go.Proofs.Tryz
variable {K:Nat->Nat->Bool} {P:Nat->Bool} {S:Nat->Prop} {W W' w:ay} {a:Tr.Ac} {b k m n t:Nat} {ks:List Nat} {kv v:Value} {l:List Tr.Ac} {s:ByteArray} {vs:List Value}
section
open Go.RowKit Tr
def SN (c:UInt8) (w:ay):Calls prog 219 #[.int .u8 c.toNat] w fun e w'=>e=.returned (.bool (iR c))/\w=w':=by
 have⟨b,hb⟩:=aZ c.toNat;have⟨ob,hob⟩:=aZ (iR c);have Bv:ob=((decide (97<=b)&&decide (b<=122))||(decide (65<=b)&&decide (b<=90))||(decide (48<=b)&&decide (b<=57))||b==45||b==95):=by rw[← hob,<-hb];rfl
 rw[hb,hob];clear hb hob;have hc:(97<=b/\b<=122)\/(122<b)\/(b=95)\/(91<=b/\b<=96/\b≠95)\/(65<=b/\b<=90)\/(58<=b/\b<=64)\/(48<=b/\b<=57)\/(b=45)\/(b<48/\b≠45):=ak;rcases hc with h | h | h | h | h | h | h | h | h
 ·have ok:ob=true:=by rw[Bv];simp;omega
  clear Bv;subst ok;have f0:(97:Int)<=b:=ak;have f1:(b:Int)<=122:=ak;exact Cx
 ·have ok:ob=false:=by rw[Bv];simp;omega
  clear Bv;subst ok;have f0:(97:Int)<=b:=ak;have f1:¬(b:Int)<=122:=ak;have f2:(65:Int)<=b:=ak;have f3:¬(b:Int)<=90:=ak;have f4:(48:Int)<=b:=ak;have f5:¬(b:Int)<=57:=ak;have f6:((b:Int)==45)=false:=fE;have f7:((b:Int)==95)=false:=fE;exact Cx
 ·exact aod
 ·have ok:ob=false:=by rw[Bv];simp;omega
  clear Bv;subst ok;have f0:¬(97:Int)<=b:=ak;have f1:(65:Int)<=b:=ak;have f2:¬(b:Int)<=90:=ak;have f3:(48:Int)<=b:=ak;have f4:¬(b:Int)<=57:=ak;have f5:((b:Int)==45)=false:=fE;have f6:((b:Int)==95)=false:=fE;exact Cx
 ·have ok:ob=true:=by rw[Bv];simp;omega
  clear Bv;subst ok;have f0:¬(97:Int)<=b:=ak;have f1:(65:Int)<=b:=ak;have f2:(b:Int)<=90:=ak;exact Cx
 ·have ok:ob=false:=by rw[Bv];simp;omega
  clear Bv;subst ok;have f0:¬(97:Int)<=b:=ak;have f1:¬(65:Int)<=b:=ak;have f2:(48:Int)<=b:=ak;have f3:¬(b:Int)<=57:=ak;have f4:((b:Int)==45)=false:=fE;have f5:((b:Int)==95)=false:=fE;exact Cx
 ·have ok:ob=true:=by rw[Bv];simp;omega
  clear Bv;subst ok;have f0:¬(97:Int)<=b:=ak;have f1:¬(65:Int)<=b:=ak;have f2:(48:Int)<=b:=ak;have f3:(b:Int)<=57:=ak;exact Cx
 ·exact aod
 ·have ok:ob=false:=by rw[Bv];simp;omega
  clear Bv;subst ok;have f0:¬(97:Int)<=b:=ak;have f1:¬(65:Int)<=b:=ak;have f2:¬(48:Int)<=b:=ak;have f3:((b:Int)==45)=false:=fE;have f4:((b:Int)==95)=false:=fE;exact Cx
def FZ (s:ByteArray) (w:ay):Calls prog 178 #[.string s] w fun e w'=>e=.returned (.bool (j_ s))/\w=w':=by
 unfold j_;by_cases h1:s.size<1
 ·have e:decide (1<=s.size)=false:=dH ak;rw[e];go_enter func178,ntmps178;exact mY
 by_cases h2:32<s.size
 ·have e:decide (s.size<=32)=false:=dH ak;rw[e];have h1':¬(s.size:Int)<1:=ak;go_enter func178,ntmps178;go_wp2;go_ret;exact⟨by simp,rfl⟩
 have e1:decide (1<=s.size)=true:=dS ak;have e2:decide (s.size<=32)=true:=dS ak;rw[e1,e2,rO,rO];have⟨q,hq⟩:=aZ s.size;have h1':¬(s.size:Int)<1:=ak;have h2':¬(32:Int)<s.size:=ak;go_enter func178,ntmps178;exact atq
def Ho (n:Int) (w:ay):Calls prog 153 #[J n] w fun e w'=>e=.returned (.bool (zJ n))/\w=w':=by
 unfold zJ;by_cases h1:1<=n
 ·by_cases h2:n<=4096
  ·rw[dS h1,dS h2];exact Xa
  ·rw[dS h1,dH h2];exact Xa
 ·rw[dH h1];exact Xa
def CZ:Option Nat->Int×Bool
 | none=>(0,false)
 | some d=>(d,true)
def Ba {ao:Option Addr} {c:Nat} (hA:kD w ao l) (hn:l.length*48<=140737488355328) (hp:akA l) (hnl:n<l.length):
  Calls prog 179 #[.slice ao l.length c,J n] w fun e w'=>e=.returned (.tuple #[J (CZ (pG l l.length n)).1,.bool (CZ (pG l l.length n)).2])/\w=w':=by
 have⟨q,hq⟩:=aZ l.length;obtain⟨g,o,hg,hc⟩:=hA;rw[hq]at hg hn hnl ⊢;obtain rfl:=hg ak;go_enter func179,ntmps179;go_wp2;go_loopg [1,9] q (fun gk pn p wr=>∃(j m:Nat),j+gk=q/\p=J j/\pn=J m/\m<q/\w=wr/\pG l q n=(pG l gk m).map (· +j))
 case atStart=>exact⟨0,n,by omega,rfl,rfl,hnl,rfl,by simp⟩
 case round=>
  obtain⟨j,m,hj,rfl,rfl,hm,rfl,hinv⟩:=hrel;by_cases hlt:j<q
  ·have hlt':(j:Int)<q:=ak;obtain⟨f,rfl⟩:∃f,gk=f+1:=⟨gk - 1,by omega⟩;rw[show pG l (f+1) m=if m=0 then some 0 else(pG l f (up l m)).map (· +1)from rfl]at hinv;by_cases e0:m=0
   ·subst e0;simp at hinv;have HE:Hid _:=hinv;clear hinv hc;go_wp2;go_ret2
    exact⟨by rw[HE.out];rfl,rfl⟩
   ·rw[au e0]at hinv;obtain⟨a,ha⟩:∃a,l[m]?=some a:=⟨_,aY ak⟩;have⟨p0,p1⟩:=hp m a ha ak;obtain⟨pn,hpn⟩:∃pn:Nat,a.pa=pn:=⟨a.pa.toNat,by omega⟩;have hup:up l m=pn:=(by rw[D6 ha,hpn];simp);rw[hup]at hinv;have d1:=(hc m a ha).pa;rw[hpn]at d1 p1;rw[hq]at p1;have HE:Hid (pG l q n=(pG l f pn).map (· +(j+1))):=show pG l q n=(pG l f pn).map (· +(j+1)) by
     rw[hinv]
     cases pG l f pn with
     | none=>rfl
     | some k=>simp;omega
    have e0':¬(m:Int)=0:=ak;have hm':(m:Int)<q:=ak;clear hinv hc ha hpn hup;go_wp2;go_roundg f
    case measure=>omega
    case rel=>exact⟨j+1,pn,by omega,rfl,rfl,by omega,rfl,HE.out⟩
  ·have hlt':¬(j:Int)<q:=ak;obtain rfl:gk=0:=ak;have HE:Hid (pG l q n=none):=show pG l q n=none by rw[hinv];rfl
   clear hinv hc;go_wp2;go_ret2
   exact⟨by rw[HE.out];rfl,rfl⟩
abbrev KS (s:ByteArray):Lit:=.string s.data.toList
abbrev KI (i:Nat):Lit:=.int .i64 (i:Int)
def wfN (h:k<=35184372088832):(Lit.int .i64 (k:Int)).wf=true:=by
 exact aoh
def atX (h:s.size<=maxLen):keyOf prog 9 (.string s)=some (KS s):=by simp[keyOf,underlying9,mapKey,h]
def af6 (h:n<=35184372088832):keyOf prog 3 (J (n:Int))=some (KI n):=NG underlying3 (wfN h)
theorem apY {s t:ByteArray} (h:KS s=KS t):s=t:=by
 cases s with
 | mk x=>simp_all
def ayC {i j:Nat} (h:KI i=KI j):i=j:=by
 grind
def af7:Maps.Keyed prog 9:=Maps.string_keyed underlying9
def Kz:Maps.Keyed prog 3:=NH underlying3
def NmD (D:DataW Unit) (l:List Ac):Prop:=∀s:ByteArray,Maps.has D (KS s)=(bq l s).isSome/\∀k,bq l s=some k->∀z,D.atKey (KS s) z=.lit (.int .i64 (k:Int))
def F5 (D:DataW Unit) (P:Nat->Bool):Prop:=∀kl,Maps.has D kl=true↔∃j,kl=KI j/\P j=true
def qP (W:ay) (k:Nat) (P:Nat->Bool):Prop:=∃D,W.ownsMap prog 3 unitElem k 64 D/\F5 D P
def PK (t:Nat) (v:Value) (m:Nat) (kv:Value) (ks:List Nat) (j:Nat):Prop:=j=t\/v.ownBlock=some j\/j=m\/kv.ownBlock=some j\/j∈ks
def Hq (ks:List Nat):List Value:=ks.map fun k=>.map (some k)
structure PT (W:ay) (t:Nat) (v:Value) (m:Nat) (kv:Value) (ks:List Nat) (l:List Ac) (K:Nat->Nat->Bool):Prop where
 blk:W.heap[t]?=some (.cells #[v,.map (some m),kv] 134 (0,0))
 row:W.ownsRow 0 58 5 v l.length (dP l)
 nms:∃D,W.ownsMap prog 9 (plainElem prog 3) m l.length D/\NmD D l
 C8:W.ownsRow 0 203 1 kv ks.length (Hq ks)
 Qw:ks.length=l.length
 kids:∀i k,ks[i]?=some k->qP W k (K i)
 nodup:ks.Nodup
 apart:m∉ks
theorem qP.kept (h:qP W k P) (b:W'.heap[k]?=W.heap[k]?):qP W' k P:=by
 obtain⟨D,⟨es,clock,h1,h2⟩,h3⟩:=h;exact⟨D,⟨es,clock,b.trans h1,h2⟩,h3⟩
theorem qP.lt (h:qP W k P):k<W.heap.size:=by
 obtain⟨D,h1,_⟩:=h;exact h1.lt
theorem PT.lt (h:PT W t v m kv ks l K):∀j,PK t v m kv ks j->j<W.heap.size:=by
 rintro j (rfl | hj | rfl | hj | hj)
 ·exact (aS.1 h.blk).1
 ·exact (h.row.lt j hj).2
 ·obtain ⟨D,h1,_⟩:=h.nms;exact h1.lt
 ·exact (h.C8.lt j hj).2
 ·have⟨i,hi⟩:=kS hj;exact(h.kids i j hi).lt
theorem row_of {w w':ay} {B e sz n:Nat} (h:w.ownsRow B e sz v n vs) (b:∀j,v.ownBlock=some j->w'.heap[j]?=w.heap[j]?):w'.ownsRow B e sz v n vs:=by
 refine⟨h.1,?_⟩;rcases h.2 with h0 | ⟨g,cap,cur,rfl,hb,hg,r⟩
 ·grind
 ·exact .inr ⟨g,cap,cur,rfl,hb,(b g rfl).trans hg,r⟩
theorem PT.kept (h:PT W t v m kv ks l K) (b:∀j,PK t v m kv ks j->W'.heap[j]?=W.heap[j]?):PT W' t v m kv ks l K:=by
 refine⟨(b t (.inl rfl)).trans h.blk,row_of h.row (fun j hj=>b j (.inr (.inl hj))),?_,row_of h.C8 (fun j hj=>b j (.inr (.inr (.inr (.inl hj))))),h.Qw,fun i k hk=>(h.kids i k hk).kept (b k (.inr (.inr (.inr (.inr (dW hk)))))),h.nodup,h.apart⟩;have⟨D,⟨es,clock,h1,h2⟩,h3⟩:=h.nms;exact⟨D,⟨es,clock,(b m (.inr (.inr (.inl rfl)))).trans h1,h2⟩,h3⟩
theorem PT.below (h:PT W t v m kv ks l K) (b:Z W W'):PT W' t v m kv ks l K:=h.kept (fun j hj=>b.block j (h.lt j hj))
def Tree (S:Nat->Prop) (W:ay) (t:Nat) (l:List Ac) (K:Nat->Nat->Bool):Prop:=∃v m kv ks,PT W t v m kv ks l K/\∀j,PK t v m kv ks j->S j
theorem Tree.kept (h:Tree S W t l K) (b:∀j,j<W.heap.size->S j->W'.heap[j]?=W.heap[j]?):Tree S W' t l K:=by
 obtain⟨v,m,kv,ks,h1,h2⟩:=h;exact⟨v,m,kv,ks,h1.kept (fun j hj=>b j (h1.lt j hj) (h2 j hj)),h2⟩
theorem Tree.below (h:Tree S W t l K) (b:Z W W'):Tree S W' t l K:=h.kept (fun j hj _=>b.block j hj)
theorem Tree.mono {S S':Nat->Prop} (h:Tree S W t l K) (b:∀j,j<W.heap.size->S j->S' j):Tree S' W t l K:=by
 grind[PT.lt,Tree]
structure Cells (W:ay) (t:Nat) (ao:Option Addr) (l:List Ac) (c m:Nat) (kv:Value):Prop where
 c0:W.cell? ⟨t,0,none⟩=some (.slice ao l.length c)
 c1:W.cell? ⟨t,1,none⟩=some (.map (some m))
 c2:W.cell? ⟨t,2,none⟩=some kv
 acs:kD W ao l
theorem PT.cells (h:PT W t v m kv ks l K):∃ao c,v=.slice ao l.length c/\Cells W t ao l c m kv:=by
 obtain⟨ao,c,rfl,h1,h2⟩:=AZ h.row;exact⟨ao,c,rfl,aj h.blk rfl,aj h.blk rfl,aj h.blk rfl,h1⟩
def KA {D:DataW Unit} (h:W.ownsMap prog 9 (plainElem prog 3) m n D) (hD:NmD D l) (hs:s.size<=maxLen):
  (Instr.lookup 131 (.map (some m)) (.string s) true).run prog W=.ok (.tuple #[.int .i64 ((bq l s).getD 0:Nat),.bool (bq l s).isSome]) W:=by
 have⟨v,ps,h1,h2⟩:=h.look_ok af7 underlying131 (z:=.int .i64 0) (zd:=.lit (.int .i64 0)) (zp:= []) (zeroValue3 W) (NI underlying3 (wfN (k:=0) ak)) (atX hs);have⟨g1,g2⟩:=hD s;rw[h1,g1];obtain⟨a,rfl,h3,_⟩:=plainElem_int_inv underlying3 h2
 cases hf:bq l s with
 | none=>grind[Maps.atKey_of_not_has]
 | some k=>grind
def af8 (h:PT W t v m kv ks l K):
  Calls prog 151 #[.pointer (some ⟨t,0,none⟩)] W fun e w'=>e=.returned (J l.length)/\W=w':=by
 obtain⟨ao,c,rfl,c0,_,_,_⟩:=h.cells;clear h;go_enter func151,ntmps151;exact mY
def Ei (h:PT W t v m kv ks l K) (n:Int):
  Calls prog 160 #[.pointer (some ⟨t,0,none⟩),J n] W fun e w'=>e=.returned (.bool (jL l n))/\W=w':=by
 obtain⟨ao,c,rfl,c0,_,_,_⟩:=h.cells;clear h;unfold jL;by_cases h0:0<=n
 ·by_cases h1:n<l.length
  ·rw[dS h0,dS h1];exact Xb
  ·rw[dS h0,dH h1];exact Xb
 ·rw[dH h0];exact Xb
def Bb (h:PT W t v m kv ks l K) (hs:s.size<=maxLen):
  Calls prog 100 #[.pointer (some ⟨t,0,none⟩),.string s] W fun e w'=>e=.returned (.tuple #[J ((bq l s).getD 0:Nat),.bool (bq l s).isSome])/\W=w':=by
 obtain⟨ao,c,rfl,_,c1,_,_⟩:=h.cells;have⟨D,h1,h2⟩:=h.nms;have hl:=KA h1 h2 hs;clear h h1 h2;go_enter func100,ntmps100;exact FI
def C9 (h:PT W t v m kv ks l K) (hs:s.size<=maxLen):
  Calls prog 152 #[.pointer (some ⟨t,0,none⟩),.string s] W fun e w'=>e=.returned (.tuple #[J (jr l s).1,J (jr l s).2])/\W=w':=by
 have hf:=Bb h hs;clear h
 cases hk:bq l s with
 | none=>
  have kv:jr l s=(0,62):=by unfold jr;rw[hk]
  rw[hk]at hf;rw[kv];go_enter func152,ntmps152;go_wp2_with fail
  refine hf.mono ?_;rintro e w1 ⟨rfl,rfl⟩;simp only[Option.getD_none,PI];exact FI
 | some k=>
  rw[hk]at hf
  cases k with
  | zero=>
   have kv:jr l s=(0,66):=by unfold jr;rw[hk]
   rw[kv];exact an0
  | succ k=>
   have kv:jr l s=(k+1,0):=by unfold jr;rw[hk]
   obtain⟨m',hm⟩:∃m,k+1=m:=⟨_,rfl⟩;rw[kv];rw[hm]at hf ⊢;have k0:¬(m':Int)=0:=ak;clear hm hk kv;exact an0
def IX (l:List Ac) (s:ByteArray) (known:Bool) (sh:Int):Int:=
 if j_ s=false then 60 else if (bq l s).isSome=true then 61 else if known=false then 62 else if zJ sh=false then 63 else 0
def Hr (h:PT W t v m kv ks l K) (hs:s.size<=maxLen) (kn:Bool) (sh:Int):
  Calls prog 130 #[.pointer (some ⟨t,0,none⟩),.string s,.bool kn,J sh] W fun e w'=>e=.returned (J (IX l s kn sh))/\W=w':=by
 obtain⟨ao,c,rfl,_,c1,_,_⟩:=h.cells;have⟨D,h1,h2⟩:=h.nms;have hl:=KA h1 h2 hs;have hn:=FZ s W;have hsh:=Ho sh W;clear h h1 h2;unfold IX;obtain⟨o1,q1⟩:∃o,j_ s=o:=⟨_,rfl⟩;obtain⟨o2,q2⟩:∃o,bq l s=o:=⟨_,rfl⟩;obtain⟨o3,q3⟩:∃o,zJ sh=o:=⟨_,rfl⟩;rw[q1]at hn ⊢;rw[q2]at hl ⊢;rw[q3]at hsh ⊢;clear q1 q2 q3
 cases o1 with
 | false=>exact ae3
 | true=>
  cases o2 with
  | some k=>simp only[pW,Ck]at hl;exact ae3
  | none=>
   simp only[Option.getD_none,PI]at hl
   cases kn with
   | false=>exact ae3
   | true=>
    go_enter func130,ntmps130;go_wp2_with fail
    refine hn.mono ?_;rintro e w1 ⟨rfl,rfl⟩;go_wp2_with fail
    refine hsh.mono ?_;rintro e w1 ⟨rfl,rfl⟩
    cases o3 with
    | false=>exact mY
    | true=>exact mY
def Tr.Wf.apZ (h:Wf l):akA l:=fun k a ha hk=>⟨(h.row k a ha hk).2.1,(h.row k a ha hk).2.2.1⟩
def KC (h:PT W t v m kv ks l K) (hw:Wf l) (n:Int):
  Calls prog 150 #[.pointer (some ⟨t,0,none⟩),J n] W fun e w'=>e=.returned (J (abl l n))/\W=w':=by
 have hh:=Ei h n;obtain⟨ao,c,rfl,c0,_,_,ha⟩:=h.cells;clear h;unfold abl
 cases hb:jL l n with
 | false=>
  rw[hb]at hh;go_enter func150,ntmps150;go_wp2_with fail
  refine hh.mono ?_;rintro e w1 ⟨rfl,rfl⟩;exact mY
 | true=>
  rw[hb]at hh;obtain⟨h0,h1⟩:0<=n/\n<l.length:=by simpa [jL]using hb
  obtain⟨k,rfl⟩:∃k:Nat,n=k:=⟨n.toNat,by omega⟩;have hk:k<l.length:=ak;have⟨d,d1,d2,d3⟩:=hw.depth hk;have d4:=Qc (fun i hi=>hw.tO hi) hk d3;have hs:=Ba (c:=c) ha (by have:=hw.len;omega) hw.apZ hk;rw[tN d3 d4]at hs;simp only[CZ]at hs;simp only[DT,gJ,d1];clear ha d1 d3;go_enter func150,ntmps150;go_wp2_with fail
  refine hh.mono ?_;rintro e w1 ⟨rfl,rfl⟩;go_wp2_with fail
  refine hs.mono ?_;rintro e w1 ⟨rfl,rfl⟩;exact mY
def af9 (h:PT W t v m kv ks l K) (hn:l.length*48<=140737488355328) (n:Int):
  Calls prog 185 #[.pointer (some ⟨t,0,none⟩),J n] W fun e w'=>e=.returned (akC l n)/\Z W w':=by
 have⟨w0,hw0⟩:=aZ (W.alloc (.cells #[.string ⟨#[]⟩,J 0,J 0,.bool false,O 0] 58));have b0:Z W w0:=by rw[← hw0];exact(aI _ W).alloc (aC _) _
 have y0:w0.heap[W.heap.size]?=some (.cells #[.string ⟨#[]⟩,J 0,J 0,.bool false,O 0] 58 (0,0)):=by rw[← hw0];exact aK W _
 have h0:=h.below b0;have hh:=Ei h0 n;obtain⟨ao,c,rfl,c0,_,_,ha⟩:=h0.cells;have⟨⟨x0,x1,x2,x3,x4⟩,x'⟩:=cells5 y0;have HW0:Hid _:=hw0;clear hw0 h h0;unfold akC
 cases hb:jL l n with
 | false=>
  rw[hb]at hh;go_enter func185,ntmps185;go_wp2_with (first | (go_at_call 160;rw[HW0.out];refine hh.mono ?_;rintro e w1 ⟨rfl,rfl⟩))
  have S:=Tk y0 (.string ⟨#[]⟩) (J 0) (J 0) (.bool false) (O 0);obtain⟨⟨z0,z1,z2,z3,z4⟩,_⟩:=cells5 S;exact b_ (v:=.tuple #[Tm akB,.bool false]) (by simp[results,results185,go_sem,Tm,akB,z0,z1,z2,z3,z4]) rfl ⟨rfl,b0.Tk (aC _) _ _ _ _ _⟩
 | true=>
  rw[hb]at hh;obtain⟨h0,h1⟩:0<=n/\n<l.length:=by simpa [jL]using hb
  obtain⟨k,rfl⟩:∃k:Nat,n=k:=⟨n.toNat,by omega⟩;obtain⟨a,hak⟩:∃a,l[k]?=some a:=⟨_,aY ak⟩;obtain⟨g,o,hg,hc⟩:=ha;obtain rfl:=hg ak;have⟨d0,d1,d2,d3,d4⟩:=hc k a hak;clear hc hg;simp only[DT,gJ,hak,pW];go_enter func185,ntmps185;go_wp2_with (first | (go_at_call 160;rw[HW0.out];refine hh.mono ?_;rintro e w1 ⟨rfl,rfl⟩))
  have S:=Tk y0 (.string a.nm) (J a.pa) (J a.sh) (.bool a.cl) (O a.us);obtain⟨⟨z0,z1,z2,z3,z4⟩,_⟩:=cells5 S;exact b_ (v:=.tuple #[Tm a,.bool true]) (by simp[results,results185,go_sem,Tm,z0,z1,z2,z3,z4]) rfl ⟨rfl,b0.Tk (aC _) _ _ _ _ _⟩
def KD (w:ay) (te sz:Nat):(w.alloc (.cells #[] te)).ownsRow w.heap.size te sz (.slice (some ⟨w.heap.size,0,none⟩) 0 0) 0 []:=⟨by simp,.inr ⟨w.heap.size,0,#[],rfl,aC _,aK w _,aC _,by decide,by simp,by simp⟩⟩
def C_ {ad:Addr} {c:Nat} (h2:kD w (some ad) l) (hn:l.length*48<=140737488355328):
  Calls prog 87 #[.slice (some ad) l.length c] w fun e w'=>∃v,e=.returned v/\w'.ownsRow w.heap.size 58 5 v l.length (dP l)/\Z w w':=by
 have⟨i0,hi0,hz0,hz1,hz2⟩:=fA Tryz.aoO;have b0:Z w (w.alloc (.cells #[] 58)):=(aI _ w).alloc (aC _) _;have hcell:=afA (h2.below b0);have hfl:=FQ l;have⟨q,hq⟩:=aZ l.length;rw[hq]at hn hfl ⊢;have hq:=fun w=>Fj (P:=prog) w 29 58 (some ad) q c 0 0 underlying29;have Ug:Hid _:=hfl;have HC:Hid _:=hcell;have HM:Hid _:=KD w 58 5;clear h2 hfl hcell;go_enter func87,ntmps87;go_wp2_with (at_builtin;refine jR rfl (.tmp 5) (.tmp 6) 29 rfl w.heap.size 58 i0 _ 5 48 underlying29 hi0 hz0 hz1 hz2 rfl aT (.slice (some ⟨w.heap.size,0,none⟩) 0 0) 0 [] rfl HM.out (some ad) q c (dP l) rfl (fun h=>by cases h) Ug.out HC.out (abn l) ?_ ?_ ?_ ?_;exact(bM (m:=35184372088832) ak aT);omega;(simp);intro v' w5 hown hgr)
 exact ae4
def abE (h:PT W t v m kv ks l K) (hn:l.length*48<=140737488355328) (hl:l≠ []):
  Calls prog 44 #[.pointer (some ⟨t,0,none⟩)] W fun e w'=>∃v,e=.returned v/\w'.ownsRow W.heap.size 58 5 v l.length (dP l)/\Z W w':=by
 obtain⟨ao,c,rfl,c0,_,_,ha⟩:=h.cells;obtain⟨ad,rfl⟩:∃ad,ao=some ad:=by obtain⟨g,o,hg,_⟩:=ha;exact⟨_,hg (List.length_pos_iff.2 hl)⟩
 have hc:=C_ (c:=c) ha hn;clear h ha;go_enter func44,ntmps44;go_wp2_with fail
 refine hc.mono ?_;rintro e w1 ⟨v,rfl,h1,h2⟩;go_wp2;go_ret;exact⟨v,rfl,h1,h2⟩
def af_ {P:Program} {ops:Array Oper} {o:Oper} {a:Act} {w:ay} {K:Act->World->Prop} {Q:Exit->Act->World->Prop} {E:Prop}
  (hgd:o.guard=none) (s x:Operand) (t:TypeId) (ho:o.op=.call {callee:=.builtin .append,args:= #[s,x],argTypes:= #[t,t]})
  (e:TypeId) (i:TypeInfo) (z:Value) (size bytes:Nat) (h1:P.underlying t=some (.slice e)) (h2:P.info? e=some i) (h3:i.zero=some z) (h4:i.size=size) (h5:i.bytes=bytes) (h6:z.cells.size=size) (h7:0<size)
  (v:Value) (n:Nat) (xs:List Value) (hs:a.eval s=v) (hown:w.ownsRow 0 e size v n xs)
  (ad:Addr) (m c:Nat) (news:List Value) (hx:a.eval x=.slice (some ad) m c) (hl:news.length=m*size) (hnews:∀j u,news[j]?=some u->w.cell? (ad.add j)=some u) (hone:∀u∈news,u.oneCell'=true)
  (b1:n+m<=maxLen) (b2:(n+m)*bytes<=140737488355328)
  (hK:∀v' w',w'.ownsRow 0 e size v' (n+m) (xs++news)->w.grownBy w' v.ownBlock->(v'.ownBlock=v.ownBlock\/v'.ownBlock=some w.heap.size)->K (a.put o.dst v') w'):
  if Region.wanted o (yielded ops a.tmps)=true then Oper.wp P o a w K Q else E:=by
 have hw:Region.wanted o (yielded ops a.tmps)=true:=by grind[Region.wanted]
 rw[aJ hw];obtain⟨v',w',hrun,r1,r2,_,r4⟩:=run_append_own_at (P:=P) w 0 t o.type e i z size bytes h1 h2 h3 h4 h5 h6 h7 v n xs hown ad m c news hl hnews hone b1 b2 (ni _);exact aot
structure ak0 (w0 w:ay) (t:Nat) (v0 v:Value) (m:Nat) (kv:Value) (ks:List Nat) (l:List Ac) (K:Nat->Nat->Bool) (b:Nat) (a:Ac):Prop where
 blk:w.heap[t]?=some (.cells #[v,.map (some m),kv] 134 (0,0))
 row:w.ownsRow 0 58 5 v (l.length+1) (dP (l++ [a]))
 nms:∃D,w.ownsMap prog 9 (plainElem prog 3) m l.length D/\NmD D l
 C8:w.ownsRow 0 203 1 kv ks.length (Hq ks)
 kids:∀i k,ks[i]?=some k->qP w k (K i)
 box:w.heap[b]?=some (.cells #[.string a.nm,J a.pa,J a.sh,.bool a.cl,O a.us] 58 (0,0))
 fF:aH (PK t v0 m kv ks) w0 w
 new:∀j,v.ownBlock=some j->v0.ownBlock=some j\/w0.heap.size<=j
theorem iG {B e sz n:Nat} (h:W.ownsRow B e sz v n vs):∀j,v.ownBlock=some j->∃cs,W.heap[j]?=some (.cells cs e (0,0)):=by
 exact aos
theorem Bc {k:TypeId} {R:Value->Option (DataW Unit×List MemPlace)} {D:DataW Unit} (h:W.ownsMap prog k R b n D):∃es c,W.heap[b]?=some (.map es c):=by
 obtain⟨es,c,h1,_⟩:=h;grind
theorem Jp (h:qP W b P):∃es c,W.heap[b]?=some (.map es c):=by
 grind[Bc,qP]
def PT.ayD {w0 wb W w1:ay} {v v':Value} (h:PT w0 t v m kv ks l K) (hb:Z w0 wb) (hbb:w0.heap.size<=b)
  (ak1:wb.heap[b]?=some (.cells #[.string a.nm,J a.pa,J a.sh,.bool a.cl,O a.us] 58 (0,0))) (hW:Z wb W)
  (hrow:w1.ownsRow 0 58 5 v' (l.length+1) (dP l++dP [a])) (hg:W.grownBy w1 v.ownBlock) (hat:v'.ownBlock=v.ownBlock\/v'.ownBlock=some W.heap.size):
  w1.cell? ⟨t,0,none⟩=some v/\w1.frozen? ⟨t,0,none⟩=false/\ak0 w0 (w1.setCell ⟨t,0,none⟩ v') t v v' m kv ks l K b a:=by
 have hbs:=(aS.1 ak1).1;have h1:=(h.below hb).below hW;have hlt:=h.lt;have hsz:=bM hb.size hW.size;have tv:=iG h1.row;have keep:∀j,j<W.heap.size->v.ownBlock≠some j->w1.heap[j]?=W.heap[j]?:=by grind[World.grownBy.block]
 have hbW:=(hW.block b hbs).trans ak1;have nt:v.ownBlock≠some t:=fun e=>by have⟨cs,hc⟩:=tv t e;rw[h1.blk]at hc;grind
 have g1:=(keep t (h1.lt t (.inl rfl)) nt).trans h1.blk;have g2:=bS w1 t 0 _ 134 v' g1;have other:∀j,j≠t->(w1.setCell ⟨t,0,none⟩ v').heap[j]?=w1.heap[j]?:=by grind[World.setCell]
 have k2:∀j,j<W.heap.size->v.ownBlock≠some j->j≠t->(w1.setCell ⟨t,0,none⟩ v').heap[j]?=W.heap[j]?:=by grind
 refine⟨aj g1 rfl,aD g1,⟨g2,?_,?_,?_,fun i k hk=>?_,?_,?_,fun j hj=>?_⟩⟩
 ·grind[abm,row_of,iG]
 ·have⟨D,hD1,hD2⟩:=h1.nms;have⟨es,c,hm⟩:=Bc hD1;refine⟨D,?_,hD2⟩;obtain⟨es',c',q1,q2⟩:=hD1;refine⟨es',c',(k2 m (h1.lt m (.inr (.inr (.inl rfl)))) (fun e=>?_) (fun e=>?_)).trans q1,q2⟩
  ·grind
  grind
 ·refine row_of h1.C8 (fun j hj=>?_);have⟨cs,hc⟩:=iG h1.C8 j hj;grind
 ·have hs:=h1.kids i k hk;grind[Jp,qP.kept]
 ·refine (k2 b (gL hbs hW.size) (fun e=>?_) (fun e=>?_)).trans hbW
  ·have:=hlt b (.inr (.inl e));omega
  grind
 ·have c1:=(aH.of_below hb _).trans (aH.of_below hW (PK t v m kv ks)) (fun _ _ h=>h);have c2:=c1.trans (aH.uP hg (K:=PK t v m kv ks) (fun k e=>.inl (.inr (.inl e)))) (fun _ _ h=>h);grind[aH.setCell,PK]
 grind
theorem aga (l:List Ac) (a:Ac) (s:ByteArray):bq (l++ [a]) s=(bq l s).or (if a.nm=s then some l.length else none):=by
 induction l with
 | nil=>grind[bq]
 | cons b l ih=>grind[bq]
theorem ak2 (s:ByteArray):WideAt.IsKeyLit (KS s):=trivial
theorem NmD.add {D:DataW Unit} (h:NmD D l) (hD:Maps.IsMap D) (hf:bq l a.nm=none):NmD (D.put (KS a.nm) (.lit (.int .i64 (l.length:Int)))) (l++ [a]):=by
 grind[aga,Fp,ak2,Cn,apY,xG,yY,NmD]
structure ak3 (w0 w:ay) (t:Nat) (v0 v:Value) (m:Nat) (kv:Value) (ks:List Nat) (l:List Ac) (K:Nat->Nat->Bool) (a:Ac):Prop where
 blk:w.heap[t]?=some (.cells #[v,.map (some m),kv] 134 (0,0))
 row:w.ownsRow 0 58 5 v (l.length+1) (dP (l++ [a]))
 nms:∃D,w.ownsMap prog 9 (plainElem prog 3) m (l.length+1) D/\NmD D (l++ [a])
 C8:w.ownsRow 0 203 1 kv ks.length (Hq ks)
 kids:∀i k,ks[i]?=some k->qP w k (K i)
 fF:aH (PK t v0 m kv ks) w0 w
 new:∀j,v.ownBlock=some j->v0.ownBlock=some j\/w0.heap.size<=j
def ak0.name {w0 w:ay} {v0 v:Value} (h:ak0 w0 w t v0 v m kv ks l K b a) (hs:a.nm.size<=maxLen) (hf:bq l a.nm=none) (hl:l.length<64) (hm:m∉ks):
  w.cell? ⟨t,1,none⟩=some (.map (some m))/\w.cell? ⟨b,0,none⟩=some (.string a.nm)/\∃w3,(Instr.mapUpdate 131 (.map (some m)) (.string a.nm) (J (l.length:Int))).run prog w.drew=.ok () w3/\ak3 w0 w3 t v0 v m kv ks l K a:=by
 refine⟨aj h.blk rfl,aj h.box rfl,?_⟩;have⟨D,hD1,hD2⟩:=h.nms;have⟨es0,c0,hmt⟩:=Bc hD1;have ayE:w.drew.ownsMap prog 9 (plainElem prog 3) m l.length D:=hD1;have⟨w3,hrun,ho3,ht3⟩:=ayE.store af7 underlying131 (gL hl aT) (atX hs) (NI underlying3 (wfN (k:=l.length) ak));have g3:=ht3.grown;have keep:∀j,j<w.heap.size->j≠m->w3.heap[j]?=w.heap[j]?:=fun j hj hn=>g3.block j hj (fun e=>hn (ji e));have nm1:∀j cs e f,w.heap[j]?=some (.cells cs e f)->j≠m:=by grind
 refine⟨w3,hrun,⟨(keep t (aS.1 h.blk).1 (nm1 _ _ _ _ h.blk)).trans h.blk,?_,⟨_,ho3,hD2.add hD1.isMap hf⟩,?_,fun i k hk=>?_,?_,h.new⟩⟩
 ·refine row_of h.row (fun j hj=>?_);have⟨cs,hc⟩:=iG h.row j hj;grind
 ·refine row_of h.C8 (fun j hj=>?_);have⟨cs,hc⟩:=iG h.C8 j hj;grind
 ·have hk1:=h.kids i k hk;grind[qP.kept,qP.lt]
 ·exact h.fF.drew.turned ht3 (.inr (.inr (.inl rfl)))
def abF:F5 (.map []:DataW Unit) (fun _=>false):=fun kl=>⟨fun h=>(by cases h),fun⟨j,_,h⟩=>(by grind)⟩
def ak3.last {w0 w w1:ay} {v0 v:Value} {kv kv':Value} (h:ak3 w0 w t v0 v m kv ks l K a) (hlen:ks.length=l.length) (hnd:ks.Nodup) (hm:m∉ks) (hK:∀j,K l.length j=false)
  (hrow:w1.ownsRow 0 203 1 kv' (ks.length+1) (Hq ks++ [.map (some w.heap.size)])) (hg:((w.alloc (.map #[] 0)).alloc (.cells #[.map (some w.heap.size)] 203)).grownBy w1 kv.ownBlock) (hat:kv'.ownBlock=kv.ownBlock\/kv'.ownBlock=some (w.heap.size+2)):
  w1.cell? ⟨t,2,none⟩=some kv/\w1.frozen? ⟨t,2,none⟩=false/\PT (w1.setCell ⟨t,2,none⟩ kv') t v m kv' (ks++ [w.heap.size]) (l++ [a]) K/\aH (PK t v0 m kv ks) w0 (w1.setCell ⟨t,2,none⟩ kv')/\(∀j,PK t v m kv' (ks++ [w.heap.size]) j->PK t v0 m kv ks j\/w0.heap.size<=j):=by
 have hsz:=h.fF.size;have⟨W,hW⟩:=aZ ((w.alloc (.map #[] 0)).alloc (.cells #[.map (some w.heap.size)] 203));rw[hW]at hg;have hWs:W.heap.size=w.heap.size+2:=by rw[← hW];simp
 have hbW:Z w W:=by rw[← hW];exact((aI _ w).alloc (aC _) _).alloc dF _
 have hnew:W.heap[w.heap.size]?=some (.map #[] 0):=by exact Xh
 have tk:=iG h.C8;have keep:∀j,j<W.heap.size->kv.ownBlock≠some j->w1.heap[j]?=W.heap[j]?:=fun j hj hn=>hg.block j hj (fun e=>hn e.symm);have aoW:∀j,j<w.heap.size->kv.ownBlock≠some j->w1.heap[j]?=w.heap[j]?:=fun j hj hn=>(keep j ak hn).trans (hbW.block j hj);have tlt:=(aS.1 h.blk).1;have nt:kv.ownBlock≠some t:=fun e=>by
  have⟨cs,hc⟩:=tk t e;rw[h.blk]at hc
  cases hc
 have g1:=(aoW t tlt nt).trans h.blk;have g2:=bS w1 t 2 _ 134 kv' g1;have other:∀j,j≠t->(w1.setCell ⟨t,2,none⟩ kv').heap[j]?=w1.heap[j]?:=fun j hj=>gy _ _ _ _ hj;have k2:∀j,j<w.heap.size->kv.ownBlock≠some j->j≠t->(w1.setCell ⟨t,2,none⟩ kv').heap[j]?=w.heap[j]?:=fun j hj hn ht=>(other j ht).trans (aoW j hj hn);have mne:∀j es c,w.heap[j]?=some (.map es c)->kv.ownBlock≠some j/\j≠t:=fun j es c hj=>by
  refine⟨fun e=>?_,fun e=>?_⟩
  ·have⟨cs,hc⟩:=tk j e;rw[hj]at hc
   cases hc
  ·subst e;rw[h.blk]at hj
   cases hj
 have hnk:w.heap.size∉ks:=fun hx=>by have⟨i,hi⟩:=kS hx;have:=(h.kids i _ hi).lt;omega
 refine⟨aj g1 rfl,aD g1,⟨g2,?_,?_,?_,by simp[hlen],fun i k hk=>?_,?_,?_⟩,?_,?_⟩
 ·have hr:=row_of h.row (w':=w1.setCell ⟨t,2,none⟩ kv') (fun j hj=>by
   have⟨cs,hc⟩:=iG h.row j hj
   refine k2 j (aS.1 hc).1 (fun e=>?_) (fun e=>?_)
   ·have⟨cs',hc'⟩:=tk j e
    rw[hc]at hc'
    cases hc'
   ·subst e
    rw[h.blk]at hc
    cases hc)
  simpa using hr
 ·have⟨D,hD1,hD2⟩:=h.nms;have⟨es,c,hmt⟩:=Bc hD1;have⟨e1,e2⟩:=mne m es c hmt;obtain⟨es',c',q1,q2⟩:=hD1;exact⟨D,⟨es',c',(k2 m (aS.1 hmt).1 e1 e2).trans q1,by simpa using q2⟩,hD2⟩
 ·have hr:=row_of hrow (w':=w1.setCell ⟨t,2,none⟩ kv') (fun j hj=>other j (fun e=>by
   subst e
   have⟨cs,hc⟩:=iG hrow j hj
   rw[g1]at hc
   cases hc))
  simpa [Hq]using hr
 ·by_cases hi:i<ks.length
  ·rw[List.getElem?_append_left hi]at hk;have hs:=h.kids i k hk;have⟨es,c,hmt⟩:=Jp hs;have⟨e1,e2⟩:=mne k es c hmt;exact hs.kept (k2 k hs.lt e1 e2)
  ·rw[SK ak]at hk;have hi':i - ks.length<1:=(by simpa using (bO.1 hk).1);have:i=l.length:=ak;subst this;rw[show l.length - ks.length=0 by omega]at hk;simp at hk;subst hk;have hKf:=funext hK;rw[hKf];refine⟨.map [],?_,abF⟩;have hm0:=(JL (H:=Unit) w prog 3 unitElem).mono (ni 64);obtain⟨es,c,q1,q2⟩:=hm0;rw[aK]at q1
   cases q1;refine⟨#[],0,?_,q2⟩;refine(other _ ak).trans ((keep _ ak (fun e=>?_)).trans hnew);have⟨cs,hc⟩:=tk _ e;have:=(aS.1 hc).1;omega
 ·rw[List.nodup_append];refine⟨hnd,by simp,fun x hx y hy=>?_⟩;simp at hy;subst hy;exact fun e=>hnk (e▸hx)
 ·simp only[pX,List.mem_singleton,not_or];refine⟨hm,fun e=>?_⟩;obtain⟨D,hD1,_⟩:=h.nms;have:=hD1.lt;omega
 ·have c1:=h.fF.trans (aH.of_below hbW (PK t v0 m kv ks)) (fun _ _ h=>h);have c2:=c1.trans (aH.uP hg (K:=PK t v0 m kv ks) (fun k e=>.inl (.inr (.inr (.inr (.inl e)))))) (fun _ _ h=>h);exact c2.setCell _ _ (.inl (.inl rfl))
 ·rintro j (rfl | hj | rfl | hj | hj)
  ·exact .inl (.inl rfl)
  ·rcases h.new j hj with e | e
   ·exact .inl (.inr (.inl e))
   ·exact .inr e
  ·exact .inl (.inr (.inr (.inl rfl)))
  ·rcases hat with e | e
   ·exact .inl (.inr (.inr (.inr (.inl (e▸hj)))))
   ·rw[e]at hj
    cases hj;exact .inr ak
  ·simp only[pX,List.mem_singleton]at hj;rcases hj with e | e
   ·exact .inl (.inr (.inr (.inr (.inr e))))
   ·exact .inr ak
def Tryz.ap1:(prog.info? 203).map (fun i=>(i.zero,i.size,i.bytes))=some (some (.map none),1,8):=aF
def bE {B e sz n:Nat} (h:w.ownsRow B e sz v n vs):∃ao c,v=.slice ao n c:=by
 rcases h.2 with⟨rfl,h0⟩ | ⟨g,cap,cur,rfl,_⟩
 ·grind
 grind
def atY (wb:ay) (o:Obj):Z wb (wb.drew.alloc o):=(⟨rfl,rfl,rfl,aC _,fun _ _=>rfl⟩:Z wb wb.drew).alloc (aC _) o
def Qx (h:PT w t v m kv ks l K) (a:Ac) (hs:a.nm.size<=maxLen) (hf:bq l a.nm=none) (hl:l.length<64) (hK:∀j,K l.length j=false):
  Calls prog 85 #[.pointer (some ⟨t,0,none⟩),Tm a] w fun e w'=>e=.returned (J l.length)/\∃v' kv' k',PT w' t v' m kv' (ks++ [k']) (l++ [aB a]) K/\aH (PK t v m kv ks) w w'/\(∀j,PK t v' m kv' (ks++ [k']) j->PK t v m kv ks j\/w.heap.size<=j):=by
 have hmm:= @run_makeMap prog;have⟨i0,hi0,hz0,hz1,hz2⟩:=fA Tryz.aoO;have⟨i1,hi1,hy0,hy1,hy2⟩:=fA Tryz.ap1;have⟨wb,hwb⟩:=aZ (w.alloc (.cells #[.string a.nm,J a.pa,J a.sh,.bool a.cl,O 0] 58));have bb:Z w wb:=by rw[← hwb];exact(aI _ w).alloc (aC _) _
 have y:wb.heap[w.heap.size]?=some (.cells #[.string (aB a).nm,J (aB a).pa,J (aB a).sh,.bool (aB a).cl,O (aB a).us] 58 (0,0)):=by rw[← hwb];exact aK w _
 obtain⟨ao,c,rfl,c0,c1,c2,_⟩:=(h.below bb).cells;obtain⟨Da,c',hv0,d0,_,_,_⟩:=h.cells
 cases hv0;have d1:(w.alloc (.cells #[.string a.nm,J a.pa,J a.sh,.bool a.cl,O a.us] 58)).cell? ⟨t,0,none⟩=some (.slice ao l.length c):=aR ((aI _ w).alloc (aC _) _) d0;obtain⟨⟨x0,x1,x2,x3,x4⟩,_⟩:=cells5 y;simp only[aB]at x0 x1 x2 x3 x4;have c0':(wb.alloc (.cells #[.string a.nm,J a.pa,J a.sh,.bool a.cl,O 0] 58)).cell? ⟨t,0,none⟩=some (.slice ao l.length c):=aR ((aI _ wb).alloc (aC _) _) c0;have hrow:=(h.below bb).row;have H:Hid _:=h;have Y:Hid _:=y;have hfa:dP [aB a]= [.string a.nm,J a.pa,J a.sh,.bool a.cl,O 0]:=rfl;unfold Tm;clear h y;go_enter func85,ntmps85;go_upto_region 3 with fail
 go_cut [19] (fun p wc=>∃v',p=v'/\ak0 w wc t (.slice ao l.length c) v' m kv ks l K w.heap.size (aB a))
 case first=>
  go_region_law (refine af_ rfl (.tmp 16) (.tmp 18) 29 rfl 58 i0 _ 5 48 underlying29 hi0 hz0 hz1 hz2 rfl aT (.slice ao l.length c) l.length (dP l) gM (hrow.alloc _) ⟨wb.heap.size,0,none⟩ 1 1 [.string a.nm,J a.pa,J a.sh,.bool a.cl,O 0] gM rfl (mJ wb.drew _ 58) (fun u hu=>by simp at hu;rcases hu with rfl | rfl | rfl | rfl | rfl<;>rfl) (bM (m:=35184372088832) ak aT) ak ?_;intro v' w1 r1 g1 r4;obtain⟨ao2,cc2,rfl⟩:=bE r1;have⟨e0,e1,LA⟩:=H.out.ayD (a:=aB a) bb (aC _) Y.out (atY wb _) r1 g1 r4)
  all_goals (go_wp2;go_meet)
  all_goals exact⟨_,rfl,LA⟩
 case rest=>
  obtain⟨v',rfl,LA⟩:=hcut;have⟨e0,e1,w3,hrun,LB⟩:=LA.name hs hf hl H.out.apart;have LBH:Hid _:=LB;clear LB LA;simp only[aB]at e0 e1 hrun;go_upto_region 4 with fail
  go_cut [] (fun wc=>ak3 w wc t (.slice ao l.length c) u19 m kv ks l K (aB a))
  case first=>
   go_region
   all_goals (go_wp2;go_meet)
   all_goals exact LBH.out
  case rest=>
   clear hrun e0 e1 LBH;have e2:=aj hcut.blk (k:=2) rfl;have kr:=hcut.C8;have LBH:Hid _:=hcut;clear hcut;have aEX:ks.length<64:=(by rw[H.out.Qw];exact hl);have hnc:∀i u,[Value.map (some wc.heap.size)][i]?=some u->((wc.alloc (.map #[] 0)).alloc (.cells #[.map (some wc.heap.size)] 203)).cell? ((⟨wc.heap.size+1,0,none⟩:Addr).add i)=some u:=(by have:=Co (wc.alloc (.map #[] 0)) (.map (some wc.heap.size)) 203;rwa [iI]at this);go_wp2_with (at_builtin;refine JI _ rfl (.tmp 33) (.tmp 35) 132 rfl 0 203 i1 _ 1 8 underlying132 hi1 hy0 hy1 hy2 rfl aT kv ks.length (Hq ks) rfl ((kr.alloc _).alloc _) ⟨wc.heap.size+1,0,none⟩ 1 1 [.map (some wc.heap.size)] rfl rfl hnc (fun u hu=>by simp at hu;subst hu;rfl) ?_ ?_ (ni _) ?_;exact(bM (m:=35184372088832) ak aT);omega;intro kv' w1 r1 g1 _ r4;obtain⟨ao2,cc2,rfl⟩:=bE r1;have⟨z0,z1,z2,z3,z4⟩:=LBH.out.last H.out.Qw H.out.nodup H.out.apart hK r1 g1 (by simpa using r4))
   go_ret;exact⟨rfl,_,_,_,z2,z3,z4⟩
theorem ak4 (n:Nat):WideAt.IsKeyLit (KI n):=trivial
def abG {k N:Nat} {D:DataW Unit} (h:W.ownsMap prog 3 unitElem k N D) (hD:F5 D P) (hP:∀j,P j=true->j<64):W.ownsMap prog 3 unitElem k 64 D:=by
 have⟨es',e',hpw,hkl⟩:=h.entries Kz;obtain⟨es,clock,hb,F,hs,hDe⟩:=h;refine⟨es,clock,hb,F,?_,hDe⟩;have hlen:es'.length=es.size:=by rw[hDe]at e';injection e' with e';rw[← e',length_sorted];simp
 rw[← hlen];have hnd:(es'.map (·.1)).Nodup:=by rw[List.nodup_iff_pairwise_ne,yZ];exact hpw
 have hsub:es'.map (·.1) ⊆ (List.range 64).map KI:=by
  intro x hx;obtain⟨p,hp,rfl⟩:=jH.1 hx;have hh:Maps.has D p.1=true:=by rw[e',Maps.has_eq];exact List.any_eq_true.2 ⟨p,hp,WideAt.sameKey_self (hkl p hp)⟩
  have⟨j,hj,hPj⟩:=(hD p.1).1 hh;rw[hj];exact jH.2 ⟨j,GZ.2 (hP j hPj),rfl⟩
 have:=hnd.length_le_of_subset hsub;simpa using this
def F5.put {D:DataW Unit} (h:F5 D P) (hm:Maps.IsMap D) (n:Nat) (d:DataW Unit):F5 (D.put (KI n) d) (fun j=>P j||j==n):=by
 grind[Fp,ak4,xG,F5]
theorem F5.del {D:DataW Unit} (h:F5 D P) (n:Nat):F5 (D.del (KI n)) (fun j=>P j&& !(j==n)):=by
 grind[Maps.has_del_same,Maps.has_del_other,F5]
def Ej {a':Ac}:∀ {l:List Ac} {n:Nat} {a:Ac},l[n]?=some a->a'.nm=a.nm->∀s,bq (l.set n a') s=bq l s
 | [],n,a,h,_,_=>by grind
 | b::l,0,a,h,e,s=>by
  grind[bq]
 | b::l,n+1,a,h,e,s=>by
  have:=Ej (l:=l) (n:=n) (by grind) e s
  simp[bq,this]
section
variable {W:ay} {t:Nat} {v:Value} {m:Nat} {kv:Value} {ks:List Nat} {l:List Ac} {K:Nat->Nat->Bool}
def PT.Z_ (h:PT W t v m kv ks l K) (ha:l[n]?=some a):∃g c,v=.slice (some ⟨g,0,none⟩) l.length c/\vN W g (n*5) a/\∀k,W.frozen? ⟨g,k,none⟩=false:=by
 have hk:=(bO.1 ha).1;rcases h.row.2 with⟨_,h0⟩ | ⟨g,cap,cur,rfl,hb,hg,h1,h2,h3,h4⟩
 ·omega
 ·refine ⟨g,cap,rfl,?_,fun k=>aD hg⟩;have⟨e0,e1,e2,e3,e4⟩:=D8 l n a ha;rw[← h4,List.getElem?_take_of_lt ak,Array.getElem?_toList]at e0 e1 e2 e3 e4;exact aoE
def PT.agb {p k:Nat} (h:PT W t v m kv ks l K) (hp:ks[p]?=some k):∃g c,kv=.slice (some ⟨g,0,none⟩) l.length c/\W.cell? ⟨g,p,none⟩=some (.map (some k))/\∀j,W.frozen? ⟨g,j,none⟩=false:=by
 have hk:=(bO.1 hp).1;rw[← h.Qw];rcases h.C8.2 with⟨_,h0⟩ | ⟨g,cap,cur,rfl,hb,hg,h1,h2,h3,h4⟩
 ·omega
 ·refine ⟨g,cap,rfl,?_,fun k=>aD hg⟩;have e0:(Hq ks)[p]?=some (.map (some k)):=by grind[Hq]
  grind[aj]
def PT.ap2 {l':List Ac} {g k:Nat} {x:Value} (h:PT W t v m kv ks l K) (hg:v.ownBlock=some g) (hf:(dP l).set k x=dP l') (hl:l'.length=l.length) (hn:∀s,bq l' s=bq l s):
  PT (W.setCell ⟨g,k,none⟩ x) t v m kv ks l' K/\aH (PK t v m kv ks) W (W.setCell ⟨g,k,none⟩ x):=by
 have hr:=h.row;have⟨cs,hcs⟩:=iG h.row g hg;have other:∀j,j≠g->(W.setCell ⟨g,k,none⟩ x).heap[j]?=W.heap[j]?:=by grind[World.setCell]
 refine⟨⟨(other t (fun e=>?_)).trans h.blk,?_,?_,row_of h.C8 (fun j hj=>other j (fun e=>?_)),by rw[hl];exact h.Qw,fun i k' hk=>?_,h.nodup,h.apart⟩,(aH.refl _ W).setCell _ _ (.inl (.inr (.inl hg)))⟩
 ·subst e;rw[h.blk]at hcs;grind
 ·rcases hr.2 with⟨rfl,_⟩ | ⟨g',cap,cur,rfl,hb,hgg,h1,h2,h3,h4⟩
  ·grind[Value.ownBlock]
  ·simp[Value.ownBlock]at hg;subst hg;have e1:=bS W g' k cur 58 x hgg;refine⟨?_,.inr ⟨g',cap,_,by grind,hb,e1,by omega,h2,by grind,?_⟩⟩
   ·grind
   grind[List.take_set]
 ·have⟨D,hD1,hD2⟩:=h.nms;have⟨es,c,hmt⟩:=Bc hD1;obtain⟨es',c',q1,q2⟩:=hD1;refine⟨D,⟨es',c',(other m (fun e=>?_)).trans q1,by grind⟩,fun s=>by rw[hn];exact hD2 s⟩;grind
 ·subst e;have⟨cs',hc'⟩:=iG h.C8 j hj;grind
 ·have hs:=h.kids i k' hk;grind[Jp,qP.kept]
def PT.atZ {p k:Nat} (h:PT W t v m kv ks l K) (hp:ks[p]?=some k) (ht:W.mapTurned W' k) (hs:qP W' k P):PT W' t v m kv ks l (fun i j=>if i=p then P j else K i j)/\aH (PK t v m kv ks) W W':=by
 have hmem:=dW hp;have⟨es,c,hkt⟩:=Jp (h.kids p k hp);have g:=ht.grown;have other:∀j,j<W.heap.size->j≠k->W'.heap[j]?=W.heap[j]?:=by grind[World.grownBy.block]
 have ne1:∀j cs e f,W.heap[j]?=some (.cells cs e f)->j≠k:=by grind
 refine⟨⟨(other t (h.lt t (.inl rfl)) (ne1 _ _ _ _ h.blk)).trans h.blk,row_of h.row (fun j hj=>?_),?_,row_of h.C8 (fun j hj=>?_),h.Qw,fun i k' hk=>?_,h.nodup,h.apart⟩,(aH.refl _ W).turned ht (.inr (.inr (.inr (.inr hmem))))⟩
 ·have⟨cs,hc⟩:=iG h.row j hj;grind
 ·have⟨D,hD1,hD2⟩:=h.nms;have hlt:=hD1.lt;obtain⟨es',c',q1,q2⟩:=hD1;exact⟨D,⟨es',c',(other m hlt (fun e=>h.apart (e▸hmem))).trans q1,q2⟩,hD2⟩
 ·have⟨cs,hc⟩:=iG h.C8 j hj;grind
 ·by_cases e:i=p
  ·simp_all
  ·have hs':=h.kids i k' hk;have hne:k'≠k:=(by grind[List.getElem?_inj,nodup]);simp only[au e];grind[qP.kept,qP.lt]
def El (K:Nat->Nat->Bool) (n p:Nat):Nat->Nat->Bool:=fun i j=>if i=p then(K p j||j==n)else K i j
def Uh (K:Nat->Nat->Bool) (n q:Nat):Nat->Nat->Bool:=fun i j=>if i=q then(K q j&& !(j==n))else K i j
def PT.ayF {n p k:Nat} (h:PT W t v m kv ks l K) (hp:ks[p]?=some k) (hn:n<64) (h64:∀j,K p j=true->j<64):
  ∃W',(Instr.mapUpdate 203 (.map (some k)) (J (n:Int)) (.agg #[])).run prog W=.ok () W'/\PT W' t v m kv ks l (El K n p)/\aH (PK t v m kv ks) W W':=by
 have⟨D,hD1,hD2⟩:=h.kids p k hp;have⟨W',hrun,ho,ht⟩:=hD1.store Kz underlying203 aT (af6 (n:=n) ak) unitElem_mk;have hs:=hD2.put hD1.isMap n (.agg []);refine⟨W',hrun,h.atZ hp ht ⟨_,abG ho hs (fun j hj=>?_),hs⟩⟩;simp at hj;rcases hj with hj | hj
 ·exact h64 j hj
 ·omega
def PT.dropped {n q k:Nat} (h:PT W t v m kv ks l K) (hq:ks[q]?=some k) (hn:n<64) (ty:TypeId):
  ∃W',(Builtin.delete_ #[203,3] ty #[.map (some k),J (n:Int)]).run prog W=.ok (.tuple #[]) W'/\PT W' t v m kv ks l (Uh K n q)/\aH (PK t v m kv ks) W W':=by
 have⟨D,hD1,hD2⟩:=h.kids q k hq;have⟨W',hrun,ho,ht⟩:=hD1.drop Kz underlying203 (af6 (n:=n) ak) ty;exact⟨W',hrun,h.atZ hq ht ⟨_,ho,hD2.del n⟩⟩
end
def KE (h:PT w t v m kv ks l K) {n p:Nat} (hl:l.length<=64) (hn:n<l.length) (hp:p<l.length) (h64:∀j,K p j=true->j<64):
  Calls prog 132 #[.pointer (some ⟨t,0,none⟩),J n,J p] w fun e w'=>e=.returned (.tuple #[])/\PT w' t v m kv ks (ou l n p) (El K n p)/\aH (PK t v m kv ks) w w':=by
 obtain⟨a,ha⟩:∃a,l[n]?=some a:=⟨_,aY hn⟩;obtain⟨k,hk⟩:∃k,ks[p]?=some k:=⟨_,aY (by rw[h.Qw];exact hp)⟩;obtain⟨ao,c,rfl,c0,c1,c2,_⟩:=h.cells;have⟨g,c',hv,⟨d0,d1,d2,d3,d4⟩,hfr⟩:=h.Z_ ha
 cases hv;obtain⟨h1,ch1⟩:=h.ap2 (g:=g) (l':=ou l n p) rfl (by rw[Tn l n a p ha];unfold ou;rw[ha]) (vM _) (fun s=>by unfold ou;rw[ha];exact Ej (a':={a with pa:=(p:Int)}) ha rfl s);obtain⟨kg,kc,rfl,e0,_⟩:=h1.agb hk;rw[vM]at h1 ch1 c2 ⊢;obtain⟨ao1,c1',hv1,f0,f1,f2,_⟩:=h1.cells;have⟨W',hrun,h2,ch2⟩:=h1.ayF (n:=n) hk ak h64;have hn':(n:Int)<l.length:=ak;have hp':(p:Int)<l.length:=ak;have H2:Hid _:=h2;have C2:Hid _:=ch1.trans ch2 (fun _ _ h=>h);clear h h1 h2 ch1 ch2 hv1 f0;go_enter func132,ntmps132;go_wp2;go_end0
 exact⟨rfl,H2.out,C2.out⟩
end
end Go.Proofs.YtdhifkbbjlhcaaaGreatDoor
