import Derived.Test.YtdhifkbbjlhcaaaGreatDoorKz12
set_option maxRecDepth 20000
set_option maxHeartbeats 8000000
set_option linter.defProp false
namespace Go.Proofs.YtdhifkbbjlhcaaaGreatDoor
open Go.Proofs.Tryz
variable {a:Tr.Ac} {ao:Option Addr} {i n:Nat} {l:List Tr.Ac} {w:ay}
section
open Go.RowKit Tr
def Ui (w:ay):Calls prog 86 #[] w fun e w'=>e=.returned (Tm eH)/\Z w w':=by
 go_enter func86,ntmps86;go_wp2;exact b_ (v:=Tm eH) (by simp[results,results86,go_sem,Tm,eH,zI]) rfl ⟨rfl,(aI _ w).alloc (aC _) _⟩
def XO (a:Ac) (w:ay):Calls prog 129 #[Tm a] w fun e w'=>e=.returned (.bool (isRoot a))/\Z w w':=by
 have hr:=fun w1=>Ui w1;obtain⟨nm,pa,sh,cl,us⟩:=a;unfold Tm at hr ⊢;simp only[eH]at hr;unfold isRoot;simp only;have⟨wb,hwb⟩:=aZ (w.alloc (.cells #[.string nm,J pa,J sh,.bool cl,O 0] 58));have y:=aK w (.cells #[.string nm,J pa,J sh,.bool cl,O 0] 58);have bb:Z w wb:=by rw[← hwb];exact(aI _ w).alloc (aC _) _
 rw[hwb]at y;obtain⟨⟨z0,z1,z2,z3,z4⟩,_⟩:=cells5 y;have hlt:=(aS.1 y).1;have HY:Hid _:=y;clear y;have fin:∀w1,Below wb.drew.heap.size wb.drew w1->Z w w1:=fun w1 b=>bb.trans (⟨b.os,b.tape,b.output,b.size,fun k hk=>b.block k (gL hk bb.size)⟩:Below w.heap.size wb w1);have kp:∀w1,Below wb.drew.heap.size wb.drew w1->(w1.cell? ⟨w.heap.size,0,none⟩=some (.string nm)/\w1.cell? ⟨w.heap.size,1,none⟩=some (J pa)/\w1.cell? ⟨w.heap.size,2,none⟩=some (J sh)/\w1.cell? ⟨w.heap.size,3,none⟩=some (.bool cl)/\w1.cell? ⟨w.heap.size,4,none⟩=some (O 0)):=fun w1 b=>(cells5 ((b.block _ hlt).trans HY.out)).1;have FIN:Hid _:=fin;have KP:Hid _:=kp;clear fin kp;by_cases h1:nm=zI
 ·have f1:=ba_eq h1;by_cases h2:pa= -1
  ·by_cases h3:sh=1
   ·rw[dS h1,dS h2,dS h3];have f2:(pa== -1)=true:=(by simp[h2]);have f3:(sh==1)=true:=(by simp[h3]);clear h1 h2 h3
    cases cl with
    | true=>exact SS
    | false=>exact SS
   ·have f2:(pa== -1)=true:=(by simp[h2]);have f3:(sh==1)=false:=(by simp[h3]);rw[dS h1,dS h2,dH h3];clear h1 h2 h3;exact SS
  ·have f2:(pa== -1)=false:=(by simp[h2]);rw[dS h1,dH h2];clear h1 h2;exact SS
 ·have f1:=atM h1;rw[dH h1];clear h1;exact SS
namespace Tr
def gP (l:List Ac) (n j:Nat):Bool:=decide ((l[j]?.map (·.pa))=some (n:Int))
theorem z8 {n j:Nat}:gP l n j=true↔j∈dh l n:=by
 grind[zL,gP]
def Jq {n j:Nat} (h:gP l n j=true):j<l.length:=by
 grind[zL,z8]
end Tr
def agf:NmD (.map []:DataW Unit) []:=fun s=>⟨rfl,fun k h=>(by cases h)⟩
theorem Oq:∀i j,gP [eH] i j=false:=by
 grind[gP,eH]
def agh (w:ay):Calls prog 43 #[] w fun e w'=>∃t v m kv ks,e=.returned (.pointer (some ⟨t,0,none⟩))/\PT w' t v m kv ks [eH] (gP [eH])/\(∀j,PK t v m kv ks j->w.heap.size<=j)/\Z w w':=by
 have hmm:= @run_makeMap prog;have⟨w1,hw1⟩:=aZ ((w.alloc (.map #[] 0)).alloc (.cells #[.slice none 0 0,.map (some w.heap.size),.slice none 0 0] 134));have b1:Z w w1:=by rw[← hw1];exact((aI _ w).alloc (aC _) _).alloc dF _
 have p1:PT w1 (w.heap.size+1) (.slice none 0 0) w.heap.size (.slice none 0 0) [] [] (gP [eH]):=by
  rw[← hw1];refine⟨?_,l8 _ _ _ _,⟨.map [],?_,agf⟩,l8 _ _ _ _,rfl,fun i k h=>(by simp at h),List.nodup_nil,by simp⟩
  ·have:=aK (w.alloc (.map #[] 0)) (.cells #[.slice none 0 0,.map (some w.heap.size),.slice none 0 0] 134);rwa [iI]at this
  ·exact (JL w prog 9 (plainElem prog 3)).alloc _
 have HB:Hid _:=b1;have HP:Hid _:=p1;clear b1 p1;go_enter func43,ntmps43;go_wp2_with fail
 refine(Ui w1).mono ?_;rintro e w2 ⟨rfl,b2⟩;have ap3:=Qx (HP.out.below b2) eH aT rfl aT (fun j=>Oq _ j);go_wp2_with fail
 refine ap3.mono ?_;rintro e w3 ⟨rfl,v',kv',k',p3,c3,n3⟩;have HP3:Hid _:=p3;have HC3:Hid _:=c3;have HN3:Hid _:=n3;clear p3 c3 n3;go_wp2;go_ret;have hs1:=HB.out.size;have hs2:=b2.size;have hlo:∀j,PK (w.heap.size+1) (.slice none 0 0) w.heap.size (.slice none 0 0) [] j->w.heap.size<=j:=by
  rintro j (rfl | h | rfl | h | h)
  ·omega
  ·simp[Value.ownBlock]at h
  ·omega
  ·simp[Value.ownBlock]at h
  ·cases h
 refine⟨_,_,_,_,_,rfl,HP3.out,fun j hj=>?_,?_⟩
 ·rcases HN3.out j hj with h | h
  ·exact hlo j h
  ·omega
 ·exact HC3.out.below (HB.out.trans (b2.mono HB.out.size)) (bM hs1 hs2) hlo
def Ext (S:Nat->Prop) (n j:Nat):Prop:=S j\/n<=j
section
variable {S:Nat->Prop} {w:ay} {t:Nat} {l:List Ac}
def at0 (w:ay):Calls prog 43 #[] w fun e w'=>∃t,e=.returned (.pointer (some ⟨t,0,none⟩))/\Tree (fun j=>w.heap.size<=j) w' t [eH] (gP [eH])/\Z w w':=
 (agh w).mono fun _ _ ⟨t,v,m,kv,ks,he,h1,h2,h3⟩=>⟨t,he,⟨v,m,kv,ks,h1,h2⟩,h3⟩
end
def Tree.ext {B:Nat} {W:ay} {t:Nat} {K:Nat->Nat->Bool} (h:Tree (Ext (fun j=>B<=j) n) W t l K) (hB:B<=n):Tree (fun j=>B<=j) W t l K:=
 h.mono (fun j _ hj=>by grind[Ext])
def aH.lo {B:Nat} {w w':ay} (h:aH (fun j=>B<=j) w w') (hB:B<=w.heap.size):Below B w w':=h.below (aI _ w) hB (fun _ hi=>hi)
end
section
open Go.RowKit Tr
section
variable {S:Nat->Prop} {w:ay} {t:Nat} {l:List Ac} {K:Nat->Nat->Bool}
def ayG (h:Tree S w t l K) (a:Ac) (hs:a.nm.size<=maxLen) (hf:bq l a.nm=none) (hl:l.length<64) (hK:∀j,K l.length j=false):
  Calls prog 85 #[.pointer (some ⟨t,0,none⟩),Tm a] w fun e w'=>e=.returned (J l.length)/\Tree (Ext S w.heap.size) w' t (l++ [aB a]) K/\aH S w w':=by
 obtain⟨v,m,kv,ks,h1,h2⟩:=h;refine(Qx h1 a hs hf hl hK).mono ?_;rintro e w' ⟨rfl,v',kv',k',g1,g2,g3⟩;refine⟨rfl,⟨v',m,kv',ks++ [k'],g1,fun j hj=>?_⟩,g2.mono (fun i _ hi=>h2 i hi)⟩;rcases g3 j hj with h | h
 ·exact .inl (h2 j h)
 ·exact .inr h
def agi (h:Tree S w t l K) {s:ByteArray} (hs:s.size<=maxLen) (kn:Bool) (sh:Int):
  Calls prog 130 #[.pointer (some ⟨t,0,none⟩),.string s,.bool kn,J sh] w fun e w'=>e=.returned (J (IX l s kn sh))/\w=w':=by
 obtain⟨v,m,kv,ks,h1,h2⟩:=h;exact Hr h1 hs kn sh
def at1 (h:Tree S w t l K) {n p:Nat} (hl:l.length<=64) (hn:n<l.length) (hp:p<l.length) (h64:∀j,K p j=true->j<64):
  Calls prog 132 #[.pointer (some ⟨t,0,none⟩),J n,J p] w fun e w'=>e=.returned (.tuple #[])/\Tree S w' t (ou l n p) (El K n p)/\aH S w w':=by
 obtain⟨v,m,kv,ks,h1,h2⟩:=h;refine(KE h1 hl hn hp h64).mono ?_;rintro e w' ⟨rfl,g1,g2⟩;exact⟨rfl,⟨v,m,kv,ks,g1,h2⟩,g2.mono (fun i _ hi=>h2 i hi)⟩
end
namespace Tr
theorem KF (l:List Ac) (s:ByteArray):bq (l.map aB) s=bq l s:=by
 induction l with
 | nil=>rfl
 | cons a l ih=>grind[aB,bq]
theorem Ot (h:l[i]?=some a):bq l a.nm≠some i↔(bq (l.take i) a.nm).isSome=true:=by
 induction l generalizing i with
 | nil=>grind
 | cons b l ih=>
  cases i with
  | zero=>grind[bq]
  | succ i=>
   have h':l[i]?=some a:=(by grind);simp only[List.take_succ_cons,bq];by_cases e:b.nm=a.nm
   ·grind
   simp_all
def agj (h:l[i]?=some a):uJ l i a=IX ((l.take i).map aB) a.nm (decide (0<=a.pa)&&decide (a.pa<l.length)) a.sh:=by
 grind[uJ,IX,KF,Ot]
def aac (h:l[i]?=some a) (he:uJ l i a=0):j_ a.nm=true/\bq ((l.take i).map aB) a.nm=none/\0<=a.pa/\a.pa<(l.length:Int):=by
 unfold uJ at he;by_cases c1:j_ a.nm=false
 ·grind
 ·rw[au c1]at he;by_cases c2:bq l a.nm≠some i
  ·grind
  ·rw[au c2]at he;by_cases c3:a.pa<0\/(l.length:Int)<=a.pa
   ·omega
   ·refine ⟨by grind,?_,by omega,by omega⟩;rw[KF]
    cases hf:bq (l.take i) a.nm with
    | none=>rfl
    | some k=>grind[Ot]
def ak6 (h:l[i]?=some a) (f:Nat):lD l (f+1) i=if uJ l i a=0 then lD l f (i+1)else uJ l i a:=by
 simp only[lD,h]
def agk (h:l.length<=i):∀f,lD l f i=0
 | 0=>rfl
 | f+1=>by grind[lD]
def Uk (h:∀k,k<l.length->up l k<l.length) (hn:n<l.length):pG l l.length n=fV l n:=by
 cases hd:fV l n with
 | some d=>obtain⟨h1,_⟩:=zK hd;grind[tN,Qc]
 | none=>
  cases hd2:pG l l.length n with
  | none=>rfl
  | some d=>grind[zK,fV,tN]
theorem Jr (h:i<l.length) (f:Nat):ig l (f+1) i=match fV l i with
  | none=>67
  | some d=>if 4<d then 64 else ig l f (i+1):=by
 grind[ig]
theorem KG (h:l.length<=i):∀f,ig l f i=0
 | 0=>rfl
 | f+1=>by grind[ig]
def abH (h:0<l.length) (f:Nat):ig l (f+1) 0=ig l f 1:=by
 grind[Jr,fV,pG]
def Ou:∀ {f i},l.length<=f+i->ig l (f+1) i=ig l f i
 | 0,i,h=>by grind[KG]
 | f+1,i,h=>by
  by_cases hi:i<l.length
  ·rw[Jr hi,Jr hi,Ou (f:=f) (i:=i+1) ak]
  grind[KG]
end Tr
def Nb {c:Nat} (hA:kD w ao l) (hn:l.length*48<=140737488355328) (hp:akA l) (hu:∀k,k<l.length->up l k<l.length):
  Calls prog 131 #[.slice ao l.length c] w fun e w'=>e=.returned (J (ig l l.length 0))/\w=w':=by
 have⟨q,hq⟩:=aZ l.length;have hst:∀n,n<q->Calls prog 179 #[.slice ao q c,J n] w fun e w'=>e=.returned (.tuple #[J (CZ (fV l n)).1,.bool (CZ (fV l n)).2])/\w=w':=fun n hnq=>by have:=Ba (c:=c) hA hn hp (n:=n) ak;rw[Uk hu ak,hq]at this;exact this
 have HST:Hid _:=hst;have HQ:Hid (l.length=q):=hq;rw[hq]at hn ⊢;clear hA hp hu hst;go_enter func131,ntmps131;go_wp2;go_loopg [8] q (fun gk p wr=>∃j:Nat,j+gk=q/\p=J j/\w=wr/\ig l q 0=ig l gk j)
 case atStart=>exact⟨0,by omega,rfl,rfl,rfl⟩
 case round=>
  obtain⟨j,hj,rfl,rfl,hinv⟩:=hrel;by_cases hlt:j<q
  ·have hlt':(j:Int)<q:=ak;obtain⟨f,rfl⟩:∃f,gk=f+1:=⟨gk - 1,by omega⟩;rw[Jr (by rw[HQ.out];exact hlt)]at hinv;have hs:=HST.out j hlt;clear hq
   cases hd:fV l j with
   | none=>rw[hd]at hinv hs;simp only[CZ]at hs;have HI:Hid (ig l q 0=67):=hinv;exact aom
   | some d=>
    rw[hd]at hinv hs;simp only[CZ]at hs;by_cases h4:4<d
    ·have h4':(4:Int)<d:=ak;have HI:Hid (ig l q 0=64):=show ig l q 0=64 by rw[hinv];simp[h4]
     exact aom
    ·have h4':¬(4:Int)<d:=ak;have HI:Hid (ig l q 0=ig l f (j+1)):=show ig l q 0=ig l f (j+1) by rw[hinv];simp[h4]
     clear hinv;go_wp2_with fail
     refine hs.mono ?_;rintro e wx ⟨rfl,rfl⟩;go_wp2;go_roundg f
     case measure=>omega
     case rel=>exact⟨j+1,by omega,rfl,rfl,HI.out⟩
  ·obtain rfl:j=q:=ak;have HI:Hid (ig l j 0=0):=show ig l j 0=0 by rw[hinv];exact KG (by rw[HQ.out];exact aC _) _
   clear hinv;go_wp2;go_ret;exact⟨by rw[HI.out];rfl,rfl⟩
end
section
open Go.RowKit Tr
def J5 (w:ay) (l:List Ac) (e:Ending) (w':ay):Prop:=
 (dw l=0->∃t,e=.returned (.tuple #[.pointer (some ⟨t,0,none⟩),J 0])/\Tree (fun j=>w.heap.size<=j) w' t (l.map aB) (gP (l.map aB)))/\(dw l≠0->e=.returned (.tuple #[.pointer none,J (dw l)]))/\Z w w'
theorem J5.no {w w':ay} {k:Int} (h:dw l=k) (hk:k≠0) (b:Z w w'):J5 w l (.returned (.tuple #[.pointer none,J k])) w':=
 ⟨fun e=>absurd (h.symm.trans e) hk,fun _=>by rw[h],b⟩
def abI:gP [eH]=fun _ _=>false:=by
 grind[Oq]
namespace Tr
def KH (h:l[i]?=some a):(l.take (i+1)).map aB=(l.take i).map aB++ [aB a]:=by
 grind[kT]
def Nc (l:List Ac) (n:Nat):Nat->Nat->Bool:=fun i j=>decide (0<j/\j<n)&&gP l i j
def XP (l:List Ac):Nc l 1=fun _ _=>false:=by
 grind[Nc]
def abJ {n p:Nat} (hn:0<n) (ha:l[n]?=some a) (hp:a.pa=p):El (Nc l n) n p=Nc l (n+1):=by
 grind[El,Nc,gP]
def agl (hn:l.length<=n) (h0:∀a,l[0]?=some a->a.pa<0):Nc l n=gP l:=by
 grind[Nc,gP]
end Tr
def Ov {c:Nat} (hA:kD w ao l) (hs:∀a∈l,a.nm.size<=maxLen) (hn:l.length*48<=140737488355328) (hc:l.length<=c):
  Calls prog 77 #[.slice ao l.length c] w (J5 w l):=by
 cases hl0:l[0]? with
 | none=>
  have hl:l= []:=by
   cases l with
   | nil=>rfl
   | cons a l=>simp at hl0
  subst hl;simp only[jh];have HE:Hid (dw []=66):=show dw []=66 from rfl;clear hA hs hl0;go_enter func77,ntmps77;go_wp2;go_ret2
  exact J5.no HE.out aT (aI _ _)
 | some a0=>
  obtain⟨g,o,hg,hcl⟩:=hA;have hpos:=(bO.1 hl0).1;obtain rfl:=hg hpos;have⟨Q,hQ⟩:=aZ l.length;have HQ:Hid (l.length=Q):=hQ;rw[hQ]at hpos hn hc ⊢;have hz:((Q:Int)==0)=false:=fE;have⟨d0,d1,d2,d3,d4⟩:=hcl 0 a0 hl0;simp only[ND,Nat.add_zero]at d0 d1 d2 d3 d4;have hir:=XO a0 w;simp only[Tm]at hir
  cases hr:isRoot a0 with
  | false=>
   rw[hr]at hir;have HE:Hid (dw l=66):=show dw l=66 by unfold dw;rw[hl0];simp[hr]
   clear hcl hg hl0 hr hs hQ;exact an9
  | true=>
   rw[hr]at hir;by_cases h64:64<Q
   ·have ayH:(64:Int)<Q:=ak;have HE:Hid (dw l=65):=show dw l=65 by unfold dw;rw[hl0];simp[hr,HQ.out,h64]
    clear hcl hg hl0 hr hs h64 hQ;exact an9
   ·have ayH:¬(64:Int)<Q:=ak;have hE:dw l=if lD l Q 1≠0 then lD l Q 1 else ig l Q 1:=(by unfold dw;rw[hl0,HQ.out];simp[hr,h64]);have hra:aB a0=eH:=(by simp[isRoot]at hr;obtain⟨⟨⟨r1,r2⟩,r3⟩,r4⟩:=hr;unfold aB eH;rw[r1,r2,r3,r4]);have HE:Hid _:=hE;have F6:Hid _:=hcl;clear hE hcl hg hQ;go_enter func77,ntmps77;go_wp2_with fail
    refine hir.mono ?_;rintro e w1 ⟨rfl,b1⟩;have hnw:=at0 w1;go_wp2_with fail
    refine hnw.mono ?_;rintro e w2 ⟨t,rfl,t2,b2⟩;have b12:=b1.trans (b2.mono b1.size);rw[abI]at t2;have T2:Hid (Tree (fun j=>w.heap.size<=j) w2 t [eH] (fun _ _=>false)):=t2.mono (fun j _ hj=>bM b1.size hj);clear t2 hnw hir;go_upto_region 6 with fail
    obtain⟨q,hq⟩:∃q,Q=q+1:=⟨Q - 1,by omega⟩;have XQ:Hid (Q=q+1):=hq;go_cut [26,27,28] (fun p26 p27 p28 wc=>∃oo cc,p26=.slice (some ⟨g,oo,none⟩) q cc/\p27=J (q:Int)/\p28=J 0/\w2=wc/\(0<q->oo=o+5))
    case first=>
     have hq1:Q - 1=q:=ak;clear hq;by_cases hc1:c=1
     ·subst hc1;obtain rfl:Q=1:=ak;obtain rfl:q=0:=ak;go_wp2;go_meet;exact⟨_,_,rfl,rfl,rfl,rfl,fun h=>by omega⟩
     ·have hc2:¬c<=1:=ak;go_wp2
      all_goals go_meet
      all_goals exact⟨_,_,rfl,rfl,rfl,rfl,fun _=>rfl⟩
    case rest=>
     obtain⟨oo,cc,rfl,rfl,rfl,rfl,hoo⟩:=hcut;have HOO:Hid _:=hoo;have ayI:Q<=64:=ak;have aEZ:q<64:=ak;clear hoo hq h64;go_wp2_with fail
     go_loopg [28] q (fun gk p wr=>∃j:Nat,j+gk=q/\p=J j/\Tree (fun j=>w.heap.size<=j) wr t ((l.take (j+1)).map aB) (fun _ _=>false)/\Z w wr/\lD l Q 1=lD l (gk+1) (j+1)/\∀i a,0<i->i<=j->l[i]?=some a->uJ l i a=0)
     case atStart=>refine⟨0,by omega,rfl,?_,b12,by rw[XQ.out],fun i a h1 h2=>by omega⟩;have:(l.take (0+1)).map aB= [eH]:=(by rw[KH hl0,hra];rfl);rw[this];exact T2.out
     case round=>
      obtain⟨j,hj,rfl,tr,hb,hro,hok⟩:=hrel;by_cases hlt:j<q
      ·have hlt':(j:Int)<q:=ak;obtain⟨a,ha⟩:∃a,l[j+1]?=some a:=⟨_,aY (by rw[HQ.out,XQ.out];omega)⟩;have hac:=F6.out (j+1) a ha;rw[show o+(j+1)*5=oo+j*5 by rw[HOO.out ak];omega]at hac;obtain⟨x0,x1,x2,x3,x4⟩:vN wr g (oo+j*5) a:=(by have k:∀ {x:Addr} {u:Value},w.cell? x=some u->wr.cell? x=some u:=fun hx=>(hb.cell (aU w _ hx)).trans hx;exact⟨k hac.nm,k hac.pa,k hac.sh,k hac.cl,k hac.us⟩);rw[ak6 ha]at hro;have⟨wb,hwb⟩:=aZ (wr.alloc (.cells #[.string a.nm,J a.pa,J a.sh,.bool a.cl,O a.us] 58));have bb:Z wr wb:=(by rw[← hwb];exact(aI _ wr).alloc (aC _) _);have yb:wb.heap[wr.heap.size]?=some (.cells #[.string a.nm,J a.pa,J a.sh,.bool a.cl,O a.us] 58 (0,0)):=(by rw[← hwb];exact aK wr _);have tb:=tr.below bb;have bw:=hb.trans (bb.mono hb.size);have hnm:=hs a (dW ha);have hrf:=agi tb hnm (decide (0<=a.pa)&&decide (a.pa<(Q:Int))) a.sh;have hre:=agj ha;rw[HQ.out]at hre;rw[← hre]at hrf;have TB:Hid (Tree (fun j=>w.heap.size<=j) wb t ((l.take (j+1)).map aB) (fun _ _=>false)):=tb;have BW:Hid _:=bw;have HWB:Hid _:=hwb;have MX:Hid _:=hro;have Sn:Hid _:=hok;obtain⟨⟨y0,y1,y2,y3,y4⟩,_⟩:=cells5 yb;clear tr hb hac hro hok bb tb bw hwb hre hl0;go_upto_region 9 with fail
       rw[HWB.out];go_cut [7] (fun v wc=>v=.bool (decide (0<=a.pa)&&decide (a.pa<(Q:Int)))/\wb=wc)
       case first=>
        by_cases p0:0<=a.pa
        ·by_cases p1:a.pa<(Q:Int)
         ·go_wp2;go_meet
          exact⟨by simp[p0,p1],rfl⟩
         ·go_wp2;go_meet
          exact⟨by simp;omega,rfl⟩
        ·go_wp2;go_meet
         exact⟨by simp;omega,rfl⟩
       case rest=>
        obtain⟨rfl,rfl⟩:=hcut;by_cases he:uJ l (j+1) a=0
        ·have⟨k1,k2,k3,k4⟩:=aac ha he;have hly:=ayG TB.out a hnm k2 (by rw[dL,vX];omega) (fun _=>rfl);rw[← KH ha]at hly;simp only[Tm]at hly;rw[he]at hrf;have HR2:Hid (lD l Q 1=lD l gk (j+2)):=show lD l Q 1=lD l gk (j+2) by rw[MX.out];simp[he]
         have HO2:Hid (∀i a,0<i->i<=j+1->l[i]?=some a->uJ l i a=0):=fun i b h1 h2 hb=>by
          by_cases e:i=j+1
          ·subst e;rw[ha]at hb
           cases hb;exact he
          ·exact Sn.out i b h1 ak hb
         clear MX Sn k1 k2 k3 k4;go_wp2_with fail
         refine hrf.mono ?_;rintro e wx ⟨rfl,rfl⟩;go_wp2_with fail
         refine hly.mono ?_;rintro e wy ⟨rfl,ty,cy⟩;have TY:Hid (Tree (fun j=>w.heap.size<=j) wy t ((l.take (j+1+1)).map aB) (fun _ _=>false)):=Tree.ext ty BW.out.size;have BY:Hid _:=BW.out.trans (cy.lo BW.out.size);clear ty cy hrf hly;go_wp2;go_roundg (q - (j+1))
         case measure=>omega
         case rel=>refine⟨j+1,by omega,rfl,TY.out,BY.out,?_,HO2.out⟩;rw[HR2.out,show q - (j+1)+1=gk by omega]
        ·have HEE:Hid (dw l=uJ l (j+1) a):=show dw l=uJ l (j+1) a by rw[HE.out,MX.out];simp[he]
         have⟨er,her⟩:=aZ (uJ l (j+1) a);rw[her]at hrf he HEE;have he':(er==0)=false:=(by simp[he]);clear MX Sn her HE;go_wp2_with fail
         refine hrf.mono ?_;rintro e wx ⟨rfl,rfl⟩;go_wp2;go_ret2
         exact J5.no HEE.out he BW.out
      ·obtain rfl:j=q:=ak;rw[xH (by rw[HQ.out,XQ.out];exact aC _)]at tr;have hr0:lD l Q 1=0:=(by rw[hro];exact agk (by rw[HQ.out,XQ.out];exact aC _) _);have ak8:akA l:=fun k a ha hk=>by
        have:=aac ha (hok k a hk (by have:=(bO.1 ha).1;rw[HQ.out,XQ.out]at this;omega) ha)
        exact⟨this.2.2.1,this.2.2.2⟩
       have hup:∀k,k<l.length->up l k<l.length:=fun k hk=>by
        obtain⟨a,ha⟩:∃a,l[k]?=some a:=⟨_,aY hk⟩;rw[D6 ha];by_cases h0:0<k
        ·have:=ak8 k a ha h0;omega
        ·obtain rfl:k=0:=ak;rw[hl0]at ha
         cases ha;have:a0.pa= -1:=(by simp[isRoot]at hr;exact hr.1.1.2);rw[this];exact hk
       have hAr:kD wr (some ⟨g,o,none⟩) l:=⟨g,o,fun _=>rfl,fun k a ha=>by
        have hac:=F6.out k a ha
        have kk:∀ {x:Addr} {u:Value},w.cell? x=some u->wr.cell? x=some u:=fun hx=>(hb.cell (aU w _ hx)).trans hx
        exact⟨kk hac.nm,kk hac.pa,kk hac.sh,kk hac.cl,kk hac.us⟩⟩
       have hmp:=Nb (c:=c) hAr (by rw[HQ.out];exact hn) ak8 hup
       rw[HQ.out]at hmp;have hdd:ig l Q 0=ig l Q 1:=(by rw[XQ.out,abH (by rw[HQ.out];exact hpos),Ou (by rw[HQ.out,XQ.out];omega)]);rw[hdd]at hmp;have HEE:Hid (dw l=ig l Q 1):=show dw l=ig l Q 1 by rw[HE.out];simp[hr0]
       have TR:Hid (Tree (fun j=>w.heap.size<=j) wr t (l.map aB) (fun _ _=>false)):=tr;have HPA:Hid _:=ak8;have HB:Hid _:=hb;clear tr hb hro hok hr0 hup hAr hdd HE ak8;by_cases he:ig l Q 1=0
       ·rw[he]at hmp;have h00:∀a,(l.map aB)[0]?=some a->a.pa<0:=fun a ha=>by
         have hz0:(l.map aB)[0]?=some (aB a0):=(by simp[hl0]);rw[hz0,hra]at ha
         cases ha;decide
        have H00:Hid _:=h00;have HL0:Hid (dw l=0):=HEE.out.trans he;clear h00 HEE hl0;go_wp2_with fail
        refine hmp.mono ?_;rintro e wx ⟨rfl,rfl⟩;go_wp2_with fail
        go_loopg [10] j (fun gk p wv=>∃n:Nat,0<n/\n+gk=Q/\p=J n/\Tree (fun j=>w.heap.size<=j) wv t (l.map aB) (Nc (l.map aB) n)/\Z w wv)
        case atStart=>exact⟨1,by omega,by rw[XQ.out];omega,rfl,by rw[XP];exact TR.out,HB.out⟩
        case round=>
         obtain⟨n,hn0,hng,rfl,tv,hbv⟩:=hrel;by_cases hnl:n<Q
         ·have at5:(n:Int)<Q:=ak;obtain⟨a,ha⟩:∃a,l[n]?=some a:=⟨_,aY (by rw[HQ.out];exact hnl)⟩;have⟨p0,p1⟩:=HPA.out n a ha hn0;rw[HQ.out]at p1;obtain⟨pq,hpq⟩:∃pq:Nat,a.pa=pq:=⟨a.pa.toNat,by omega⟩;have ha':(l.map aB)[n]?=some (aB a):=(by simp[ha]);have hll:(l.map aB).length=Q:=(by rw[dL];exact HQ.out);have hhg:=at1 tv (n:=n) (p:=pq) (by rw[hll];exact ayI) (by rw[hll];exact hnl) (by rw[hll];omega) (fun j hj=>by
           unfold Nc at hj
           simp at hj
           omega)
          have hms:ou (l.map aB) n (pq:Int)=l.map aB:=by rw[← hpq];exact akw (a:=aB a) ha'
          rw[hms,abJ hn0 ha' hpq]at hhg;have x1:wr.cell? ⟨g,o+n*5+1,none⟩=some (J (pq:Int)):=(by have hx:=(F6.out n a ha).pa;rw[hpq]at hx;exact(hbv.cell (aU w _ hx)).trans hx);have BV:Hid _:=hbv;clear tv hbv ha ha' hll hms hpq p0 p1;go_wp2_with fail
          refine hhg.mono ?_;rintro e wz ⟨rfl,tz,cz⟩;have TZ:Hid (Tree (fun j=>w.heap.size<=j) wz t (l.map aB) (Nc (l.map aB) (n+1))):=tz;have BZ:Hid _:=BV.out.trans (cz.lo BV.out.size);clear tz cz hhg;go_wp2;go_roundg (Q - (n+1))
          case measure=>omega
          case rel=>exact⟨n+1,by omega,by omega,rfl,TZ.out,BZ.out⟩
         ·have at5:¬(n:Int)<Q:=ak;have TF:Hid (Tree (fun j=>w.heap.size<=j) wr t (l.map aB) (gP (l.map aB))):=show Tree (fun j=>w.heap.size<=j) wr t (l.map aB) (gP (l.map aB)) by
           rw[← agl (l:=l.map aB) (n:=n) (by rw[dL,HQ.out];omega) H00.out]
           exact tv
          clear tv;go_wp2;go_ret2
          exact⟨fun _=>⟨t,rfl,TF.out⟩,fun h=>absurd HL0.out h,hbv⟩
       ·obtain ⟨er,her⟩:∃er,ig l Q 1=er:=⟨_,rfl⟩;rw[her]at hmp he HEE;have he':(er==0)=false:=(by simp[he]);clear her hl0;go_wp2_with fail
        refine hmp.mono ?_;rintro e wx ⟨rfl,rfl⟩;go_wp2;go_ret2
        exact J5.no HEE.out he HB.out
def abL {P:Program} {ops:Array Oper} {o:Oper} {a:Act} {w:ay} {K:Act->World->Prop} {Q:Exit->Act->World->Prop} {E:Prop}
  (hgd:o.guard=none) (s x:Operand) (t:TypeId) (ho:o.op=.call {callee:=.builtin .append,args:= #[s,x],argTypes:= #[t,t]})
  (B:Nat) (e:TypeId) (i:TypeInfo) (z:Value) (size bytes:Nat) (h1:P.underlying t=some (.slice e)) (h2:P.info? e=some i) (h3:i.zero=some z) (h4:i.size=size) (h5:i.bytes=bytes) (h6:z.cells.size=size) (h7:0<size)
  (v:Value) (n:Nat) (xs:List Value) (hs:a.eval s=v) (hown:w.ownsRow B e size v n xs)
  (ad:Addr) (m c:Nat) (news:List Value) (hx:a.eval x=.slice (some ad) m c) (hl:news.length=m*size) (hnews:∀j u,news[j]?=some u->w.cell? (ad.add j)=some u) (hone:∀u∈news,u.oneCell'=true)
  (b1:n+m<=maxLen) (b2:(n+m)*bytes<=140737488355328) (hB:B<=w.heap.size)
  (hK:∀v' w',w'.ownsRow B e size v' (n+m) (xs++news)->w.grownBy w' v.ownBlock->(v'.ownBlock=v.ownBlock\/v'.ownBlock=some w.heap.size)->K (a.put o.dst v') w'):
  if Region.wanted o (yielded ops a.tmps)=true then Oper.wp P o a w K Q else E:=by
 have hw:Region.wanted o (yielded ops a.tmps)=true:=by grind[Region.wanted]
 rw[aJ hw];obtain⟨v',w',hrun,r1,r2,_,r4⟩:=run_append_own_at (P:=P) w B t o.type e i z size bytes h1 h2 h3 h4 h5 h6 h7 v n xs hown ad m c news hl hnews hone b1 b2 hB;exact aot
end
end Go.Proofs.YtdhifkbbjlhcaaaGreatDoor
