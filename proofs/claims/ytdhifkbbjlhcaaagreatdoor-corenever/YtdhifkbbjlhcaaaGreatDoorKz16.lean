import Derived.Test.YtdhifkbbjlhcaaaGreatDoorKz7
import Derived.WalkSmall
set_option maxRecDepth 20000
set_option maxHeartbeats 1000000
set_option linter.defProp false
namespace Go.Proofs.YtdhifkbbjlhcaaaGreatDoor
open Go.Proofs.Tryz
variable {D:Nat->Prop} {I:ay->Prop} {ao:Option Addr} {w:ay}
section
open Go.RowKit Tr
def aqg:Clo prV 157 [] (fun a b=>decide (b.b<a.b)) (fun _=>True) (fun _=>False) where
 call:=fun x p q _=>by
  show Calls prog 157 #[.agg #[J p.a,J p.b],.agg #[J q.a,J q.b]] x _
  go_enter func157,ntmps157
  go_wp2
  go_ret
  exact⟨rfl,trivial,((aH.refl _ _).alloc _).alloc _⟩
 keep:=fun _ _ _ _ _ _=>trivial
 low:=fun _ _ _ h=>h.elim
def nO (W:ay) (b:Nat) (M:List Pr):Prop:=W.heap[b]?=some (.cells (jJ M).toArray 115 (0,0))
section
variable {W W':ay} {b:Nat} {M:List Pr}
theorem nO.lt (h:nO W b M):b<W.heap.size:=(aS.1 (show W.heap[b]?=_ from h)).1
theorem nO.free (h:nO W b M) (k:Nat):W.frozen? ⟨b,k,none⟩=false:=aD (show W.heap[b]?=_ from h)
def nO.at (h:nO W b M) {k:Nat} {p:Pr} (ha:M[k]?=some p):W.cell? ⟨b,k*2,none⟩=some (J p.a)/\W.cell? ⟨b,k*2+1,none⟩=some (J p.b):=by
 grind[Kl,aj,nO]
theorem nO.fF {K:Nat->Prop} (c:aH K W W') (h:nO W b M) (hK:¬K b):nO W' b M:=(c.block b h.lt hK).trans h
theorem nO.below (c:Z W W') (h:nO W b M):nO W' b M:=(c.block b h.lt).trans h
def nO.set (h:nO W b M) (k:Nat) (p:Pr):nO ((W.setCell ⟨b,k*2,none⟩ (J p.a)).setCell ⟨b,k*2+1,none⟩ (J p.b)) b (M.set k p):=by
 grind[World.setCell,nO,N7]
def nO.src (h:nO W b M) {A B C:List Pr} (e:M=A++(B++C)) (o:Nat) (ho:o=A.length*2):∀j u,(jJ B)[j]?=some u->W.cell? ((⟨b,o,none⟩:Addr).add j)=some u:=by
 intro j u hj;have hb:W.heap[b]?=_:=h;grind[Addr.add_lit,aj,FU,sN]
end
def Tryz.auu:(prog.info? 115).map (fun i=>(i.zero,i.size,i.bytes))=some (some (.agg #[J 0,J 0]),2,16):=aF
theorem Tryz.auv:(prog.info? 115).map (·.size)=some 2:=aF
def aqh (w:ay) {n:Nat} (hn:n*16<=140737488355328):∃w',(Instr.makeSlice 39 (J (n:Int)) (J (n:Int))).run prog w=.ok (.slice (some ⟨w.heap.size,0,none⟩) n n) w'/\nO w' w.heap.size (List.replicate n zPr)/\Z w w'/\w'.heap.size=w.heap.size+1:=by
 have⟨i0,hi0,hz0,hz1,hz2⟩:=fA Tryz.auu;have hmk:=run_make (P:=prog) w 39 115 i0 _ underlying39 hi0 hz0 .i64 .i64 (n:Int) (n:Int) ak (kL _) (by rw[hz2];omega) ak;rw[show ((n:Int)).toNat=n by omega,hz1]at hmk;refine⟨_,hmk,?_,dY,by simp⟩;unfold nO;rw[← XD n];exact aK w _
def aqi {g n c:Nat} {l:List Pr} (hA:nO w g (List.replicate n zPr)) (hL:l.length=n) (hnil:ao=none->n=0) (hsrc:∀ad,ao=some ad->∀j u,(jJ l)[j]?=some u->w.cell? (ad.add j)=some u):
  ∃w',(Builtin.copy_ #[39,39] 3 #[.slice (some ⟨g,0,none⟩) n n,.slice ao n c]).run prog w=.ok (goInt (n:Nat)) w'/\nO w' g l/\Below g w w':=by
 cases ao with
 | none=>grind[XE,underlying39,Tryz.auv,aI]
 | some ad=>
  have hf:=sN l;have hm:Nat.min n n=n:=by grind
  have hrun:=abq (P:=prog) w 39 39 3 115 g 0 n n ad n c 2 _ 115 (jJ l) underlying39 Tryz.auv hA ak (hsrc ad rfl) (by simp[sN,hL]) (N8 l);grind[below_setRow,aI,xI,nO,sN]
def Uo {n c:Nat} {l:List Pr} (hn:n*16<=140737488355328) (hL:l.length=n) (hnil:ao=none->n=0) (hsrc:∀ad,ao=some ad->∀j u,(jJ l)[j]?=some u->w.cell? (ad.add j)=some u):
  Calls prog 197 #[.slice ao n c] w fun e w'=>e=.returned (.slice (some ⟨w.heap.size,0,none⟩) n n)/\nO w' w.heap.size l/\Z w w'/\w.heap.size<w'.heap.size:=by
 have⟨w1,hmk,hA,hb,hz⟩:=aqh w hn;obtain⟨w2,hcp,hA2,hb2⟩:=aqi (c:=c) hA hL hnil (fun ad e j u hj=>(aH.of_below hb (fun _=>False)).cell (hsrc ad e j u hj) (fun h=>h));have HE:Hid (nO w2 w.heap.size l/\Z w w2/\w.heap.size<w2.heap.size):=⟨hA2,hb.trans hb2,hA2.lt⟩;clear hA hA2 hb hb2 hz hsrc hnil hL hn;go_enter func197,ntmps197;go_wp2;go_ret;exact⟨rfl,HE.out⟩
end
section
open Go.RowKit Tr
structure yV (lt:Pr->Pr->Bool) (I:ay->Prop) (D:Nat->Prop) (w:ay) (b sb fb:Nat) (fv:Value) (P Q F S F2 S2:List Pr) (i:Nat) (x:ay):Prop where
 row:∃out G:List Pr,out.length=i/\G.length=F2.length/\nO x b (P++(out++(G++(S2++Q))))/\iU lt F S=out++iU lt F2 S2
 first:nO x fb F
 tail:∃F1,F=F1++F2
 box:x.cell? ⟨sb,0,none⟩=some fv
 inv:I x
 fF:aH (fun j=>j=b\/D j) w x
 db:¬D b
 df:¬D fb
 ds:¬D sb
 fb1:fb≠b
 sb1:sb≠b
 kp:∀x x' (K:Nat->Prop),I x->aH K x x'->(∀j,D j->¬K j)->I x'
section
variable {lt:Pr->Pr->Bool} {I:ay->Prop} {D:Nat->Prop} {w x x':ay} {b sb fb i:Nat} {fv:Value} {P Q F S F2 S2 F3 S3:List Pr} {p q:Pr}
def yV.sum (h:yV lt I D w b sb fb fv P Q F S F2 S2 i x):i+F2.length+S2.length=F.length+S.length:=by
 grind[row,Na]
def yV.call (h:yV lt I D w b sb fb fv P Q F S F2 S2 i x) (c:aH D x x') (hi:I x'):yV lt I D w b sb fb fv P Q F S F2 S2 i x':=by
 have⟨out,G,h1,h2,h3,h4⟩:=h.row;exact⟨⟨out,G,h1,h2,h3.fF c h.db,h4⟩,h.first.fF c h.df,h.tail,c.cell h.box h.ds,hi,h.fF.trans c (fun _ _ e=>.inr e),h.db,h.df,h.ds,h.fb1,h.sb1,h.kp⟩
theorem yV.drew (h:yV lt I D w b sb fb fv P Q F S F2 S2 i x):yV lt I D w b sb fb fv P Q F S F2 S2 i x.drew:=
 h.call (aH.refl _ _).drew (h.kp x x.drew (fun _=>False) h.inv (aH.refl _ _).drew (fun _ _ e=>e))
theorem yV.drewN (h:yV lt I D w b sb fb fv P Q F S F2 S2 i x) (n:Nat):yV lt I D w b sb fb fv P Q F S F2 S2 i (x.drewN n):=by
 have hb:Z x (x.drewN n):=⟨rfl,rfl,rfl,aC _,fun _ _=>rfl⟩;exact h.call (aH.of_below hb _) (h.kp x (x.drewN n) (fun _=>False) h.inv (aH.of_below hb _) (fun _ _ e=>e))
def yV.rdF (h:yV lt I D w b sb fb fv P Q F S (p::F3) S2 i x):x.cell? ⟨fb,(F.length - (F3.length+1))*2,none⟩=some (J p.a)/\x.cell? ⟨fb,(F.length - (F3.length+1))*2+1,none⟩=some (J p.b):=by
 have⟨F1,e⟩:=h.tail;refine h.first.at ?_;grind
def yV.rdS (h:yV lt I D w b sb fb fv P Q F S F2 (q::S3) i x):x.cell? ⟨b,(P.length+i+F2.length)*2,none⟩=some (J q.a)/\x.cell? ⟨b,(P.length+i+F2.length)*2+1,none⟩=some (J q.b):=by
 have⟨out,G,h1,h2,h3,h4⟩:=h.row;refine h3.at ?_;grind
theorem yV.free (h:yV lt I D w b sb fb fv P Q F S F2 S2 i x) (k:Nat):x.frozen? ⟨b,k,none⟩=false:=by
 grind[row,nO.free]
def yV.rdG (h:yV lt I D w b sb fb fv P Q F S (p::F3) S2 i x):∃g:Pr,x.cell? ⟨b,(P.length+i)*2,none⟩=some (J g.a)/\x.cell? ⟨b,(P.length+i)*2+1,none⟩=some (J g.b):=by
 have⟨out,G,h1,h2,h3,h4⟩:=h.row
 cases G with
 | nil=>grind
 | cons g G=>refine⟨g,h3.at ?_⟩;grind
def yV.put (h:yV lt I D w b sb fb fv P Q F S (p::F3) S2 i x) (v:Pr):∃out G:List Pr,out.length=i/\G.length=F3.length/\nO ((x.setCell ⟨b,(P.length+i)*2,none⟩ (J v.a)).setCell ⟨b,(P.length+i)*2+1,none⟩ (J v.b)) b (P++(out++(v::G++(S2++Q))))/\iU lt F S=out++iU lt (p::F3) S2:=by
 have⟨out,G,h1,h2,h3,h4⟩:=h.row
 cases G with
 | nil=>grind
 | cons g G=>have h5:=h3.set (P.length+i) v;rw[← h1,set_mid,h1]at h5;grind
def yV.rest (h:yV lt I D w b sb fb fv P Q F S F2 S2 i x) (k:aH (fun j=>j=b) x x'):nO x' fb F/\x'.cell? ⟨sb,0,none⟩=some fv/\I x'/\aH (fun j=>j=b\/D j) w x':=
 ⟨h.first.fF k h.fb1,k.cell h.box h.sb1,h.kp x x' (fun j=>j=b) h.inv k (fun _ hj e=>h.db (e▸hj)),h.fF.trans k (fun _ _ e=>.inl e)⟩
theorem yV.pO (h:yV lt I D w b sb fb fv P Q F S (p::F3) S2 i x) (hl:S2= []\/∃q S3,S2=q::S3/\lt q p=false):yV lt I D w b sb fb fv P Q F S F3 S2 (i+1) ((x.setCell ⟨b,(P.length+i)*2,none⟩ (J p.a)).setCell ⟨b,(P.length+i)*2+1,none⟩ (J p.b)):=by
 have⟨out,G,h1,h2,h3,h4⟩:=h.put p;obtain⟨r1,r2,r3,r4⟩:=h.rest (x':=((x.setCell ⟨b,(P.length+i)*2,none⟩ (J p.a)).setCell ⟨b,(P.length+i)*2+1,none⟩ (J p.b))) (((aH.refl (fun j=>j=b) x).setCell ⟨b,_,none⟩ _ (.inl rfl)).setCell ⟨b,_,none⟩ _ (.inl rfl));refine⟨⟨out++ [p],G,by grind,h2,?_,?_⟩,r1,?_,r2,r3,r4,h.db,h.df,h.ds,h.fb1,h.sb1,h.kp⟩
 ·grind
 ·grind[qh,xQ]
 ·have⟨F1,e⟩:=h.tail;exact⟨F1++ [p],by grind⟩
def yV.auw (h:yV lt I D w b sb fb fv P Q F S (p::F3) (q::S3) i x) (hq:lt q p=true):yV lt I D w b sb fb fv P Q F S (p::F3) S3 (i+1) ((x.setCell ⟨b,(P.length+i)*2,none⟩ (J q.a)).setCell ⟨b,(P.length+i)*2+1,none⟩ (J q.b)):=by
 have⟨out,G,h1,h2,h3,h4⟩:=h.put q;obtain⟨r1,r2,r3,r4⟩:=h.rest (x':=((x.setCell ⟨b,(P.length+i)*2,none⟩ (J q.a)).setCell ⟨b,(P.length+i)*2+1,none⟩ (J q.b))) (((aH.refl (fun j=>j=b) x).setCell ⟨b,_,none⟩ _ (.inl rfl)).setCell ⟨b,_,none⟩ _ (.inl rfl));refine⟨⟨out++ [q],G++ [q],by grind,by grind,?_,?_⟩,r1,h.tail,r2,r3,r4,h.db,h.df,h.ds,h.fb1,h.sb1,h.kp⟩
 ·grind
 grind[vP]
def yV.done (h:yV lt I D w b sb fb fv P Q F S [] S2 i x):nO x b (P++(iU lt F S++Q)):=by
 grind[row,CJ]
end
end
section
open Go.RowKit Tr
def agw {lt:Pr->Pr->Bool} (C:Clo prV 157 [] lt I D) {b o2 n c h:Nat} {P Q F S:List Pr}
  (hM:nO w b (P++(F++(S++Q)))) (ho:o2=P.length*2) (hF:F.length=h) (hn:h+S.length=n) (hs:0<S.length) (hc:n<=c) (hb:n*16<=140737488355328) (hI:I w) (hDb:¬D b):
  Calls prog 237 #[.agg #[(.func (.func 157) #[] #[])],.slice (some ⟨b,o2,none⟩) n c,J h] w fun e w'=>e=.returned (.tuple #[])/\nO w' b (P++(iU lt F S++Q))/\aH (fun j=>j=b\/D j) w w'/\I w':=by
 obtain⟨w1,hw1⟩:∃w1,w.alloc (.cells #[(.func (.func 157) #[] #[])] 256)=w1:=⟨_,rfl⟩;have hb1:Z w w1:=by rw[← hw1];exact dY
 have zw1:w1.heap.size=w.heap.size+1:=by rw[← hw1];simp
 have cb1:w1.cell? ⟨w.heap.size,0,none⟩=some (.func (.func 157) #[] #[]):=by rw[← hw1];exact aj (aK w _) rfl
 have hM1:=hM.below hb1;have hcp:=Uo (w:=w1.drew) (n:=h) (c:=c) (ao:=some ⟨b,o2,none⟩) (l:=F) ak hF (fun e=>by cases e) (fun ad e=>by cases e;exact nO.src (nO.below ((aI _ w1).drew) hM1) rfl o2 ak);have hbl:=hM.lt;have HI1:Hid (I w1):=C.keep w w1 (fun _=>False) hI (aH.of_below hb1 _) (fun _ _ e=>e);have hh:h<=n:=ak;have hhc:h<=c:=ak;have HX:Hid (nO w1 b (P++(F++(S++Q)))):=hM1;have HO:Hid (o2=P.length*2/\F.length=h/\h+S.length=n/\n<=c/\n*16<=140737488355328):=⟨ho,hF,hn,hc,hb⟩;have HB1:Hid (Z w w1/\w1.heap.size=w.heap.size+1):=⟨hb1,zw1⟩;have HC:Hid _:=C;have HLW:Hid (∀j,D j->j<w.heap.size):=C.low w hI;have hhn:(h:Int)<=n:=ak;have azs:(h:Int)<=c:=ak;have auy:¬c=h:=ak;clear ho hF hn hc hb hs hM hM1 C hI hb1 zw1;go_enter func237,ntmps237;go_upto_region 1 with fail
 go_region_with (go_at_call 197;refine hcp.mono ?_;rintro e w2 ⟨rfl,hF2,hb2,hz2⟩)
 have HMG:Hid (yV lt I D w b w.heap.size w1.heap.size (.func (.func 157) #[] #[]) P Q F S F S 0 w2):=by have z1:=HB1.out.2;have k2:aH (fun _=>False) w1 w2:=aH.of_below (by have:=hb2;exact((aI _ w1).drew).trans hb2) _;have hi2:=HC.out.keep w1 w2 _ HI1.out k2 (fun _ _ e=>e);have lw:=fun j (hj:D j)=>HLW.out j hj;exact⟨⟨[],F,rfl,rfl,HX.out.fF k2 (fun e=>e),rfl⟩,hF2,⟨[],rfl⟩,k2.cell cb1 (fun e=>e),hi2,(aH.of_below HB1.out.1 _).trans (k2.mono (fun _ _ e=>e.elim)) (fun _ _ e=>e),hDb,(fun e=>by have:=lw _ e;omega),(fun e=>by have:=lw _ e;omega),ak,ak,HC.out.keep⟩
 go_wp2;have hcall:Hid (∀x p q,I x->Calls prog 157 #[.agg #[J p.a,J p.b],.agg #[J q.a,J q.b]] x fun e x'=>e=.returned (.bool (lt p q))/\I x'/\aH D x x'):=fun x p q h=>HC.out.call x p q h
 clear hcp HX hF2 hb2 hz2 cb1 hhn azs auy hh hhc HB1 HI1 HLW HC hw1;generalize w.heap.size=sb at *;generalize w1.heap.size=fb at *;clear w1;go_loopg [6,7,8] (F.length+S.length) (fun gk v6 v7 v8 wr=>∃(F2 S2:List Pr) (a6 a7:Addr) (c7 i:Nat),F2.length+S2.length=gk/\v6=.slice (some a6) F2.length F2.length/\v7=.slice (some a7) S2.length c7/\v8=J i/\S2.length<=c7/\(0<F2.length->a6=⟨fb,(F.length - F2.length)*2,none⟩)/\(0<S2.length->a7=⟨b,(P.length+i+F2.length)*2,none⟩)/\yV lt I D w b sb fb (.func (.func 157) #[] #[]) P Q F S F2 S2 i wr)
 case atStart=>have⟨e1,e2,e3,e4,e5⟩:=HO.out;refine⟨F,S,⟨fb,0,none⟩,⟨b,o2+h*2,none⟩,c - h,0,rfl,by rw[e2],by rw[show n - h=S.length by omega],rfl,by omega,(fun _=>by simp),(fun _=>?_),HMG.out⟩;rw[e1,<-e2,Nat.add_zero,Nat.add_mul]
 case round=>
  obtain⟨F2,S2,a6,a7,c7,i,hgk,rfl,rfl,rfl,hc7,ha6,ha7,hmg⟩:=hrel;have HM:Hid _:=hmg;clear hmg HMG
  cases F2 with
  | nil=>
   simp only[jh];go_wp2;go_end0
   exact⟨rfl,HM.out.done,HM.out.fF,HM.out.inv⟩
  | cons p F3=>
   obtain rfl:=ha6 dF;have⟨f,hf⟩:=aZ F3.length;have agx:=HM.out.sum;have HF:Hid (F3.length=f):=hf;have HGK:Hid ((p::F3).length+S2.length=gk):=hgk;have HA7:Hid (0<S2.length->a7=⟨b,(P.length+i+(F3.length+1))*2,none⟩):=ha7;have Ug:Hid (F3.length+1<=F.length):=(by have⟨F1,e⟩:=HM.out.tail;show F3.length+1<=F.length;rw[e];simp);rw[hf]at Ug;have auz:=hc7;simp only[dK,hf]at ha7 agx ⊢;have⟨f2,hf2⟩:=aZ ((F.length - (f+1))*2);have MW:Hid ((F.length - (f+1))*2=f2):=hf2;simp only[hf2];have hin:(i:Int)<n:=(by have:=HO.out;omega);have hin':i<n:=ak;have HAD:Hid ((P.length+i)*2=o2+i*2):=(by show (P.length+i)*2=o2+i*2;have:=HO.out.1;omega);clear hf hf2 hgk ha6
   cases S2 with
   | nil=>
    simp only[jh];go_upto_region 5 with fail
    go_quiet (fail)
    have HMX:Hid _:=HM.out.drewN nq;clear HM;generalize wr.drewN nq=X at *;have⟨g,g1,g2⟩:=HMX.out.rdG;have g3:=HMX.out.free (o2+i*2);have g4:=HMX.out.free (o2+i*2+1);rw[HAD.out]at g1 g2;have r1:=HMX.out.rdF;simp only[HF.out,MW.out]at r1;obtain⟨r1,r2⟩:=r1;have HN:Hid (∀x',x'=((X.setCell ⟨b,o2+i*2,none⟩ (J p.a)).setCell ⟨b,o2+i*2+1,none⟩ (J p.b)).drew->yV lt I D w b sb fb (.func (.func 157) #[] #[]) P Q F S F3 [] (i+1) x'):=fun x' e=>by have h:=(HMX.out.pO (.inl rfl)).drew;rw[HAD.out]at h;rw[e];exact h
    have h1f:(1:Int)<=(f:Int)+1:=ak;have HW:Hid (wrap64 ((i:Int)+1)=((i+1:Nat):Int)):=(by exact WZ);by_cases hf1:f=0
    ·subst hf1;go_upto_region 7 with fail
     go_region_with fail
     all_goals (go_wp2;(go_roundg (0+0));(case measure=>have:=HGK.out;simp only[dK,jh,HF.out]at this;omega);(case rel=>exact⟨F3,[],⟨fb,f2,none⟩,a7,c7,i+1,by rw[HF.out,jh],by rw[HF.out],rfl,by rw[HW.out],auz,(fun h=>by rw[HF.out]at h;omega),(fun h=>by simp at h),HN.out _ rfl⟩))
    ·go_upto_region 7 with fail
     go_region_with fail
     all_goals (go_wp2;(go_roundg (f+0));(case measure=>have:=HGK.out;simp only[dK,jh,HF.out]at this;omega);(case rel=>exact⟨F3,[],⟨fb,f2+2,none⟩,a7,c7,i+1,by rw[HF.out,jh],by rw[HF.out],rfl,by rw[HW.out],auz,(fun _=>by rw[HF.out];congr 1;have:=MW.out;have:=Ug.out;omega),(fun h=>by simp at h),HN.out _ rfl⟩))
   | cons q S3=>
    obtain rfl:=ha7 dF;have⟨s,hs⟩:=aZ S3.length;have HS:Hid (S3.length=s):=hs;simp only[dK,hs]at hc7 agx ⊢;have⟨q2,hq2⟩:=aZ ((P.length+i+(f+1))*2);have HQ2:Hid ((P.length+i+(f+1))*2=q2):=hq2;have HD:Hid _:=HM.out.drew;simp only[hq2];have d1:=HD.out.rdS;have d2:=HD.out.rdF;have d3:=HD.out.box;simp only[dK,HF.out,hq2,MW.out]at d1 d2;have HDD:Hid (wr.drew.cell? ⟨b,q2,none⟩=some (J q.a)/\wr.drew.cell? ⟨b,q2+1,none⟩=some (J q.b)/\wr.drew.cell? ⟨fb,f2,none⟩=some (J p.a)/\wr.drew.cell? ⟨fb,f2+1,none⟩=some (J p.b)/\wr.drew.cell? ⟨sb,0,none⟩=some (.func (.func 157) #[] #[])):=⟨d1.1,d1.2,d2.1,d2.2,d3⟩;have hca:=hcall.out wr.drew q p HD.out.inv;clear hs hq2 ha7 d1 d2 d3;go_upto_region 5 with fail
    go_region_held3 (fun x=>x.cell? ⟨b,q2,none⟩=some (J q.a)/\x.cell? ⟨b,q2+1,none⟩=some (J q.b)/\x.cell? ⟨fb,f2,none⟩=some (J p.a)/\x.cell? ⟨fb,f2+1,none⟩=some (J p.b)/\x.cell? ⟨sb,0,none⟩=some (.func (.func 157) #[] #[])) (first | exact HDD.out | exact HX5.out) (first | (go_at_call 157;refine hca.mono ?_;rintro e x5 ⟨rfl,hi5,hk5⟩;have IZ:Hid _:=HD.out.call hk5 hi5;have HX5:Hid (x5.cell? ⟨b,q2,none⟩=some (J q.a)/\x5.cell? ⟨b,q2+1,none⟩=some (J q.b)/\x5.cell? ⟨fb,f2,none⟩=some (J p.a)/\x5.cell? ⟨fb,f2+1,none⟩=some (J p.b)/\x5.cell? ⟨sb,0,none⟩=some (.func (.func 157) #[] #[])):=(by have d1:=IZ.out.rdS;have d2:=IZ.out.rdF;have d3:=IZ.out.box;simp only[dK,HF.out,HQ2.out,MW.out]at d1 d2;exact⟨d1.1,d1.2,d2.1,d2.2,d3⟩)))
    have Ni:Hid _:=IZ.out;clear HX5 IZ HDD HD hca hi5 hk5 HM;have⟨t,ht⟩:=aZ (lt q p);have HT:Hid (lt q p=t):=ht;rw[ht];clear ht;have⟨g,g1,g2⟩:=Ni.out.rdG;have g3:=Ni.out.free (o2+i*2);have g4:=Ni.out.free (o2+i*2+1);rw[HAD.out]at g1 g2
    cases t with
    | true=>
     have r1:=Ni.out.rdS;simp only[dK,HF.out,HQ2.out]at r1;obtain⟨r1,r2⟩:=r1;have HN:Hid (∀x',x'=((x5.setCell ⟨b,o2+i*2,none⟩ (J q.a)).setCell ⟨b,o2+i*2+1,none⟩ (J q.b)).drew->yV lt I D w b sb fb (.func (.func 157) #[] #[]) P Q F S (p::F3) S3 (i+1) x'):=fun x' e=>by have h:=(Ni.out.auw HT.out).drew;rw[HAD.out]at h;rw[e];exact h
     have HW:Hid (wrap64 ((i:Int)+1)=((i+1:Nat):Int)):=(by exact WZ);have h1s:(1:Int)<=(s:Int)+1:=ak;by_cases hc1:c7=1
     ·have hs0:s=0:=ak;subst hs0;go_upto_region 6 with fail
      go_region_with fail
      all_goals (go_wp2;(go_roundg (f+1));(case measure=>have:=HGK.out;simp only[dK,HF.out,HS.out]at this;omega);(case rel=>exact⟨p::F3,S3,⟨fb,f2,none⟩,⟨b,q2,none⟩,0,i+1,by rw[dK,HF.out,HS.out],by rw[dK,HF.out],by rw[HS.out],by rw[HW.out],by rw[HS.out];omega,(fun _=>by rw[dK,HF.out,MW.out]),(fun h=>by rw[HS.out]at h;omega),HN.out _ rfl⟩))
     ·go_upto_region 6 with fail
      go_region_with fail
      all_goals (go_wp2;(go_roundg (f+1+s));(case measure=>have:=HGK.out;simp only[dK,HF.out,HS.out]at this;omega);(case rel=>exact⟨p::F3,S3,⟨fb,f2,none⟩,⟨b,q2+2,none⟩,c7 - 1,i+1,by rw[dK,HF.out,HS.out],by rw[dK,HF.out],by rw[HS.out],by rw[HW.out],by rw[HS.out];omega,(fun _=>by rw[dK,HF.out,MW.out]),(fun _=>by rw[dK,HF.out];congr 1;have:=HQ2.out;omega),HN.out _ rfl⟩))
    | false=>
     have r1:=Ni.out.rdF;simp only[HF.out,MW.out]at r1;obtain⟨r1,r2⟩:=r1;have HN:Hid (∀x',x'=((x5.setCell ⟨b,o2+i*2,none⟩ (J p.a)).setCell ⟨b,o2+i*2+1,none⟩ (J p.b)).drew->yV lt I D w b sb fb (.func (.func 157) #[] #[]) P Q F S F3 (q::S3) (i+1) x'):=fun x' e=>by have h:=(Ni.out.pO (.inr ⟨q,S3,rfl,HT.out⟩)).drew;rw[HAD.out]at h;rw[e];exact h
     have h1f:(1:Int)<=(f:Int)+1:=ak;have HW:Hid (wrap64 ((i:Int)+1)=((i+1:Nat):Int)):=(by exact WZ);by_cases hf1:f=0
     ·subst hf1;go_upto_region 7 with fail
      go_region_with fail
      all_goals (go_wp2;(go_roundg (0+(s+1)));(case measure=>have:=HGK.out;simp only[dK,HF.out,HS.out]at this;omega);(case rel=>exact⟨F3,(q::S3),⟨fb,f2,none⟩,⟨b,q2,none⟩,c7,i+1,by rw[HF.out,dK,HS.out],by rw[HF.out],by rw[dK,HS.out],by rw[HW.out],by rw[dK,HS.out];omega,(fun h=>by rw[HF.out]at h;omega),(fun _=>by rw[HF.out];congr 1;have:=HQ2.out;omega),HN.out _ rfl⟩))
     ·go_upto_region 7 with fail
      go_region_with fail
      all_goals (go_wp2;(go_roundg (f+(s+1)));(case measure=>have:=HGK.out;simp only[dK,HF.out,HS.out]at this;omega);(case rel=>exact⟨F3,(q::S3),⟨fb,f2+2,none⟩,⟨b,q2,none⟩,c7,i+1,by rw[HF.out,dK,HS.out],by rw[HF.out],by rw[dK,HS.out],by rw[HW.out],by rw[dK,HS.out];omega,(fun _=>by rw[HF.out];congr 1;have:=MW.out;have:=Ug.out;omega),(fun _=>by rw[HF.out];congr 1;have:=HQ2.out;omega),HN.out _ rfl⟩))
def alk {lt:Pr->Pr->Bool} (C:Clo prV 157 [] lt I D):∀(N:Nat) {w:ay} {b o2 n c:Nat} {P Q L:List Pr},n<=N->nO w b (P++(L++Q))->o2=P.length*2->L.length=n->n<=c->n*16<=140737488355328->I w->¬D b->
  Calls prog 198 #[.agg #[(.func (.func 157) #[] #[])],.slice (some ⟨b,o2,none⟩) n c] w fun e w'=>e=.returned (.tuple #[])/\nO w' b (P++(sortV lt L++Q))/\aH (fun j=>j=b\/D j) w w'/\I w':=by
 intro N;induction N with
 | zero=>intro w b o2 n c P Q L hN hM ho hL hc hb hI hDb;obtain rfl:n=0:=ak;have e:sortV lt L=L:=nW lt ak;have HE:Hid (∀x,Z w x->nO x b (P++(sortV lt L++Q))/\aH (fun j=>j=b\/D j) w x/\I x):=fun x hx=>⟨by rw[e];exact hM.below hx,aH.of_below hx _,C.keep w x (fun _=>False) hI (aH.of_below hx _) (fun _ _ e=>e)⟩;clear hM ho hL hc hb hI hDb hN e C;go_enter func198,ntmps198;go_wp2;refine b_ (qV rfl _ _ _) rfl ?_;exact⟨rfl,HE.out _ dY⟩
 | succ N ih=>
  intro w b o2 n c P Q L hN hM ho hL hc hb hI hDb;obtain⟨w1,hw1⟩:∃w1,w.alloc (.cells #[(.func (.func 157) #[] #[])] 256)=w1:=⟨_,rfl⟩;have hb1:Z w w1:=by rw[← hw1];exact dY
  have zw1:w1.heap.size=w.heap.size+1:=by rw[← hw1];simp
  have cb1:w1.cell? ⟨w.heap.size,0,none⟩=some (.func (.func 157) #[] #[]):=by rw[← hw1];exact aj (aK w _) rfl
  by_cases h2:n<2
  ·have e:sortV lt L=L:=nW lt ak;have HE:Hid (nO w1 b (P++(sortV lt L++Q))/\aH (fun j=>j=b\/D j) w w1/\I w1):=⟨by rw[e];exact hM.below hb1,aH.of_below hb1 _,C.keep w w1 (fun _=>False) hI (aH.of_below hb1 _) (fun _ _ e=>e)⟩;have h2':(n:Int)<2:=ak;clear hM ho hL hc hb hI hDb hN e C ih cb1;go_enter func198,ntmps198;go_wp2;refine b_ (qV rfl _ _ _) rfl ?_;exact⟨rfl,HE.out⟩
  ·obtain ⟨h,hh⟩:∃h,n / 2=h:=⟨_,rfl⟩;have HQ:Hid ((n:Int).tdiv 2=(h:Int)):=(by show (n:Int).tdiv 2=(h:Int);rw[← hh];rw[SG ak];rfl);have h2':¬(n:Int)<2:=ak;have HWH:Hid (wrap64 (h:Int)=(h:Int)):=Km ak;have HH:Hid (L.take (L.length / 2)=L.take h/\L.drop (L.length / 2)=L.drop h):=(by rw[hL,hh];exact⟨rfl,rfl⟩);have⟨F,hF⟩:=aZ (L.take h);have⟨S,hS⟩:=aZ (L.drop h);have hFS:L=F++S:=(by rw[← hF,<-hS,Fq]);have hFl:F.length=h:=(by rw[← hF,vX];omega);have hSl:S.length=n - h:=(by rw[← hS,List.length_drop];omega);have HSO:Hid (sortV lt L=iU lt (sortV lt F) (sortV lt S)):=(by show sortV lt L=_;rw[CK lt ak,HH.out.1,HH.out.2,hF,hS]);have low:=C.low w hI;have hbl:=hM.lt;have hI1:=C.keep w w1 (fun _=>False) hI (aH.of_below hb1 _) (fun _ _ e=>e);have kd:=fun x (hx:I x)=>C.keep x x.drew (fun _=>False) hx (aH.refl _ _).drew (fun _ _ e=>e);have hM1:nO w1.drew b (P++(F++(S++Q))):=(by have h5:=hM.below hb1;rw[hFS,Cq]at h5;exact nO.below ((aI _ w1).drew) h5);have c1:=ih (w:=w1.drew) (b:=b) (o2:=o2) (n:=h) (c:=c) (P:=P) (Q:=S++Q) (L:=F) ak hM1 ho hFl ak ak (kd _ hI1) hDb;have HI2:Hid (∀x,nO x b (P++(sortV lt F++(S++Q)))->I x->Calls prog 198 #[.agg #[(.func (.func 157) #[] #[])],.slice (some ⟨b,o2+h*2,none⟩) (n - h) (c - h)] x.drew fun e w'=>e=.returned (.tuple #[])/\nO w' b ((P++sortV lt F)++(sortV lt S++Q))/\aH (fun j=>j=b\/D j) x.drew w'/\I w'):=fun x hx hi=>ih (w:=x.drew) (b:=b) (o2:=o2+h*2) (n:=n - h) (c:=c - h) (P:=P++sortV lt F) (Q:=Q) (L:=S) ak (nO.below ((aI _ x).drew) (by rw[Cq];exact hx)) (by rw[tC,qM,hFl];omega) hSl ak ak (kd _ hi) hDb;have HI3:Hid (∀x,nO x b ((P++sortV lt F)++(sortV lt S++Q))->I x->Calls prog 237 #[.agg #[(.func (.func 157) #[] #[])],.slice (some ⟨b,o2,none⟩) n c,J h] x fun e w'=>e=.returned (.tuple #[])/\nO w' b (P++(iU lt (sortV lt F) (sortV lt S)++Q))/\aH (fun j=>j=b\/D j) x w'/\I w'):=fun x hx hi=>agw C (by rw[Cq]at hx;exact hx) ho (by rw[qM,hFl]) (by rw[qM,hSl];omega) (by rw[qM,hSl];omega) hc hb hi hDb;have HB1:Hid _:=hb1;have HKS:Hid (∀x y,aH (fun j=>j=b\/D j) x y->x.cell? ⟨w.heap.size,0,none⟩=some (.func (.func 157) #[] #[])->y.cell? ⟨w.heap.size,0,none⟩=some (.func (.func 157) #[] #[])):=fun x y k hx=>k.cell hx (fun e=>by rcases e with e | e;(have e':w.heap.size=b:=e;omega);(have:=low _ e;exact Ct _ this));have hhn:(h:Int)<=n:=ak;have hhc:(h:Int)<=c:=ak;have auy:¬c=h:=ak;have d1:w1.drew.cell? ⟨w.heap.size,0,none⟩=some (.func (.func 157) #[] #[]):=cb1;clear hM ho hL hc hb hI hDb hN C ih hM1 HH hF hS hFS hFl hSl low hI1 kd hh zw1 h2 hbl hb1;have hwh:=HWH.out;have hq:=HQ.out;go_enter func198,ntmps198;go_upto_region 3 with fail
   go_region_with (go_at_call 198;refine c1.mono ?_;rintro e w3 ⟨rfl,r3,k3,i3⟩)
   have b3:=HKS.out _ _ k3 d1;have c2:=HI2.out w3 r3 i3;have d3:w3.drew.cell? ⟨w.heap.size,0,none⟩=some (.func (.func 157) #[] #[]):=b3;have HK3:Hid (aH (fun j=>j=b\/D j) w w3):=((aH.of_below HB1.out _).drew).trans k3 (fun _ _ e=>e);clear r3 i3 k3 c1 d1;go_upto_region 4 with fail
   go_region_with (go_at_call 198;refine c2.mono ?_;rintro e w5 ⟨rfl,r5,k5,i5⟩)
   have b5:=HKS.out _ _ k5 d3;have c3:=HI3.out w5 r5 i5;have HK5:Hid (aH (fun j=>j=b\/D j) w w5):=(HK3.out.drew).trans k5 (fun _ _ e=>e);clear r5 i5 k5 c2 d3 b3;go_wp2_with fail
   refine c3.mono ?_;rintro e w6 ⟨rfl,r6,k6,i6⟩;go_wp2;go_end0
   exact⟨rfl,by rw[HSO.out];exact r6,HK5.out.trans k6 (fun _ _ e=>e),i6⟩
def alm {lt:Pr->Pr->Bool} (C:Clo prV 157 [] lt I D) {n c:Nat} {l:List Pr} (hn:n*16<=140737488355328) (hL:l.length=n) (hnil:ao=none->n=0) (hsrc:∀ad,ao=some ad->∀j u,(jJ l)[j]?=some u->w.cell? (ad.add j)=some u) (hI:I w):
  Calls prog 156 #[.slice ao n c,(.func (.func 157) #[] #[])] w fun e w'=>e=.returned (.slice (some ⟨w.heap.size,0,none⟩) n n)/\nO w' w.heap.size (sortV lt l)/\aH D w w'/\I w':=by
 have c1:=Uo (c:=c) hn hL hnil hsrc;have low:=C.low w hI;have HI2:Hid (∀x,nO x w.heap.size l->Z w x->Calls prog 198 #[.agg #[(.func (.func 157) #[] #[])],.slice (some ⟨w.heap.size,0,none⟩) n n] x fun e w'=>e=.returned (.tuple #[])/\nO w' w.heap.size (sortV lt l)/\aH (fun j=>j=w.heap.size\/D j) x w'/\I w'):=fun x hx hb=>by have h1:=alk C n (w:=x) (b:=w.heap.size) (o2:=0) (n:=n) (c:=n) (P:= []) (Q:= []) (L:=l) (aC _) (by simpa using hx) rfl hL (aC _) hn (C.keep w x (fun _=>False) hI (aH.of_below hb _) (fun _ _ e=>e)) (fun e=>Ct _ (low _ e));simpa using h1
 have hne:∀(y:Array Value) (x:ay),(binOp .neq 214 (.func (.func 157) #[] y) .nilFunc).run prog x=.ok (.bool true) x:=fun y x=>TI x 214 _ _ _ _ _ _ underlying214;clear hn hL hnil hsrc hI C low;go_enter func156,ntmps156;go_wp2_with fail
 refine c1.mono ?_;rintro e w1 ⟨rfl,r1,hb1,hz1⟩;have c2:=HI2.out w1 r1 hb1;clear c1;go_wp2_with fail
 refine c2.mono ?_;rintro e w2 ⟨rfl,r2,k2,i2⟩;go_wp2;go_ret;exact⟨rfl,r2,(aH.of_below hb1 D).trans k2 (fun j hj e=>by rcases e with e | e;(exact absurd hj ak);(exact e)),i2⟩
end
end Go.Proofs.YtdhifkbbjlhcaaaGreatDoor
