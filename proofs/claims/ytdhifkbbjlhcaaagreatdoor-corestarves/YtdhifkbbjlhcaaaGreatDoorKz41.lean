import Derived.Test.YtdhifkbbjlhcaaaGreatDoorKz2
import Derived.Test.YtdhifkbbjlhcaaaGreatDoorKz40
set_option maxRecDepth 20000
set_option maxHeartbeats 4000000
set_option linter.defProp false
namespace Go.Proofs.YtdhifkbbjlhcaaaGreatDoor
open Go.Proofs.Tryz
variable {F n x:Nat} {L:List A3.Ag.En} {l:List Tr.Ac} {lab:Nat->Nat} {s:Sv} {w:ay}
section
open Go.RowKit Wd Tr Cg Ld
structure pV (x n:Nat) (A:Array Value) (c:Cd) (v:ay):Prop where
 a:v.heap[x]?=some (.cells A 100 (0,0))
 b:v.heap[n]?=some (.cells (fM c) 45 (0,0))
section
variable {x n:Nat} {A:Array Value} {c:Cd} {v v':ay}
theorem pV.fF {K:Nat->Prop} (h:pV x n A c v) (k:aH K v v') (hx:¬K x) (hn:¬K n):pV x n A c v':=⟨(k.block x (aS.1 h.a).1 hx).trans h.a,(k.block n (aS.1 h.b).1 hn).trans h.b⟩
theorem pV.below (h:pV x n A c v) (k:Z v v'):pV x n A c v':=⟨(k.block x (aS.1 h.a).1).trans h.a,(k.block n (aS.1 h.b).1).trans h.b⟩
theorem pV.row (h:pV x n A c v) {b:Nat} (hx:x≠b) (hn:n≠b) (cs:Array Value):pV x n A c (v.setRow b cs):=⟨(gX v b x cs hx).trans h.a,(gX v b n cs hn).trans h.b⟩
end
theorem Y6 {f:Ac->Ac} (hf:∀a,(f a).us=a.us):nX (Nq l n f)=nX l:=by
 unfold Nq nX
 cases hn:l[n]? with
 | none=>rfl
 | some b=>simp only;rw[List.map_set,hf];exact Zy fun i=>by grind
def adG (l:List Ac) (nm:ByteArray) (sh:Int):nX (dO l nm sh).2=nX l:=by
 unfold dO;split
 ·rename_i n _;split
  ·rfl
  ·exact Y6 (l:=l) (n:=n) (f:=fun a=>{a with sh:=sh}) (by grind)
 ·rfl
def aiI (l:List Ac) (nm:ByteArray):nX (gK l nm).2=nX l:=by
 unfold gK;split
 ·rename_i n _;exact Y6 (l:=l) (n:=n) (f:=fun a=>{a with cl:=true}) (by grind)
 ·rfl
def amJ (l:List Ac) (nm pn:ByteArray):nX (h_ l nm pn).2=nX l:=by
 by_cases h0:(h_ l nm pn).1=0
 ·obtain ⟨n,p,_,_,_,_,e⟩:=Ti (l:=l) (l':=(h_ l nm pn).2) (nm:=nm) (pn:=pn) (by grind);have e:(h_ l nm pn).2=Nq l n (fun a=>{a with pa:=(p:Int)}):=e;grind[Y6]
 ·rw[Qd h0]
theorem Kept.wf (v:Kept s):Wf (s.la.map aB):=rX v.ok.load
def VK (h:Cr lab w x s) (c:Cd) (hn:c.nm.size<=maxLen):Calls prog 60 #[.pointer (some ⟨x,0,none⟩),.agg (fM c)] w (qU lab w x (yc s c)):=by
 obtain⟨P,L,F,h,hjs,hL,hF⟩:=h;have⟨W,hW,bW,hC,hA,hz⟩:=gH w c;have l9:=h.top _ (aC _);have qW:lab (w.heap.size+1)=9:=h.top _ ak;have iX:5<=w.heap.size+1:=by have:=h.Gv;omega
 have hxl:=h.xlt;have h0:=(h.below bW).below (aA W);have M0:Mv lab lab w W.drew:=(Mv.of_below bW).below (aA W);have T0:pV x w.heap.size _ c W.drew:=⟨h0.blk,hC⟩;have oz:w.heap.size+1<W.drew.heap.size:=hz;have xA:=alJ h0.tree hn c.sh;rw[Ip]at xA;have lx:=h0.lx;have H0:Hid _:=h0;have yJ:Hid _:=M0;have HT0:Hid _:=T0;have HA:Hid (dB W.drew (w.heap.size+1)):=hA;clear h h0 M0 bW hC hA T0;unfold fM;go_enter func60,ntmps60;go_upto_region 1 with fail
 refine aG (S:=(pV x w.heap.size (cC s P) c)) (L:=99) aF ?_;have bG:=HT0.out;have HF:Hid (∀xx:ay,(pV x w.heap.size (cC s P) c) xx->_/\_/\_/\True):=fun xx bJ=>⟨aj bJ.a (k:=9) rfl,aj bJ.b (k:=1) rfl,aj bJ.b (k:=3) rfl,trivial⟩;refine tk 0 ?_;refine tk 1 ?_;refine tk 2 ?_;refine tk 3 ?_;refine tk 4 ?_;refine tk 5 ?_;refine tk 6 ?_;refine tk 7 ?_;refine last_one (i:=8) aF rfl ?_;intro K hK;go_simp;go_at_call 110;refine(xA).mono ?_;rintro e w1 ⟨rfl,hT1,k1⟩;have lH:=pV.fF bG k1 (by rw[lx];decide) (by rw[l9];decide);go_simp;refine jE hK lH ?_;clear hK K bG;refine last_one (i:=9) aF rfl ?_;intro K hK;go_simp;go_at_call 30;refine(iq _ _).mono ?_;rintro e w2 ⟨rfl,b2⟩;have⟨iJ,jW,hsA⟩:=dM (dB.below (dB.fF HA.out k1 (by rw[qW];decide)) b2);have ku:=pV.below lH b2;go_simp;refine jE hK ku ?_;clear hK K lH;refine last_one (i:=10) aF rfl ?_;intro K hK;rw[aJ iW];refine mW 42 (.tmp 4) (.tmp 14) rfl (w.heap.size+1) (d9 (coded (dO s.la c.nm c.sh).1) aV aV aV) gM gM 42 iJ jW.out Tryz.lJ hsA Fh ?_;refine hK.out _ _ (fun _=>pV.row ku ak ak _) (fun _=>?_);clear hK K;refine aO aF ?_ _;go_wp2;have h1:=H0.out.set1 k1 (la':=(dO s.la c.nm c.sh).2) (adG _ _ _) hT1;have JB:uF lab 1 W.drew.heap.size w1.heap.size (w.heap.size+1)=9:=by rw[fu oz];exact qW
 exact eD results60 rfl rfl jW.out rfl ⟨_,_,rfl,⟨P,L,F,(h1.below b2).ret JB iX _,hjs,hL,hF⟩,((yJ.out.trans (Mv.lift aT k1)).below b2).ret ak _,iw _ _ _ _⟩
def adH (h:Cr lab w x s) (v:Kept s) (c:Cd) (hn:c.nm.size<=maxLen) (hp:c.pa.size<=maxLen):Calls prog 61 #[.pointer (some ⟨x,0,none⟩),.agg (fM c)] w (qU lab w x (Lx s c)):=by
 obtain⟨P,L,F,h,hjs,hL,hF⟩:=h;have⟨W,hW,bW,hC,hA,hz⟩:=gH w c;have l9:=h.top _ (aC _);have qW:lab (w.heap.size+1)=9:=h.top _ ak;have iX:5<=w.heap.size+1:=by have:=h.Gv;omega
 have hxl:=h.xlt;have h0:=(h.below bW).below (aA W);have M0:Mv lab lab w W.drew:=(Mv.of_below bW).below (aA W);have T0:pV x w.heap.size _ c W.drew:=⟨h0.blk,hC⟩;have oz:w.heap.size+1<W.drew.heap.size:=hz;have xA:=auS h0.tree v.wf hn hp;rw[LD]at xA;have lx:=h0.lx;have H0:Hid _:=h0;have yJ:Hid _:=M0;have HT0:Hid _:=T0;have HA:Hid (dB W.drew (w.heap.size+1)):=hA;clear h h0 M0 bW hC hA T0;unfold fM;go_enter func61,ntmps61;go_upto_region 1 with fail
 refine aG (S:=(pV x w.heap.size (cC s P) c)) (L:=99) aF ?_;have bG:=HT0.out;have HF:Hid (∀xx:ay,(pV x w.heap.size (cC s P) c) xx->_/\_/\_/\True):=fun xx bJ=>⟨aj bJ.a (k:=9) rfl,aj bJ.b (k:=1) rfl,aj bJ.b (k:=2) rfl,trivial⟩;refine tk 0 ?_;refine tk 1 ?_;refine tk 2 ?_;refine tk 3 ?_;refine tk 4 ?_;refine tk 5 ?_;refine tk 6 ?_;refine tk 7 ?_;refine last_one (i:=8) aF rfl ?_;intro K hK;go_simp;go_at_call 111;refine(xA).mono ?_;rintro e w1 ⟨rfl,hT1,k1⟩;have lH:=pV.fF bG k1 (by rw[lx];decide) (by rw[l9];decide);go_simp;refine jE hK lH ?_;clear hK K bG;refine last_one (i:=9) aF rfl ?_;intro K hK;go_simp;go_at_call 30;refine(iq _ _).mono ?_;rintro e w2 ⟨rfl,b2⟩;have⟨iJ,jW,hsA⟩:=dM (dB.below (dB.fF HA.out k1 (by rw[qW];decide)) b2);have ku:=pV.below lH b2;go_simp;refine jE hK ku ?_;clear hK K lH;refine last_one (i:=10) aF rfl ?_;intro K hK;rw[aJ iW];refine mW 42 (.tmp 4) (.tmp 14) rfl (w.heap.size+1) (d9 (coded (h_ s.la c.nm c.pa).1) aV aV aV) gM gM 42 iJ jW.out Tryz.lJ hsA Fh ?_;refine hK.out _ _ (fun _=>pV.row ku ak ak _) (fun _=>?_);clear hK K;refine aO aF ?_ _;go_wp2;have h1:=H0.out.set1 k1 (la':=(h_ s.la c.nm c.pa).2) (amJ _ _ _) hT1;have JB:uF lab 1 W.drew.heap.size w1.heap.size (w.heap.size+1)=9:=by rw[fu oz];exact qW
 exact eD results61 rfl rfl jW.out rfl ⟨_,_,rfl,⟨P,L,F,(h1.below b2).ret JB iX _,hjs,hL,hF⟩,((yJ.out.trans (Mv.lift aT k1)).below b2).ret ak _,iw _ _ _ _⟩
def Y7 (h:Cr lab w x s) (c:Cd) (hn:c.nm.size<=maxLen):Calls prog 62 #[.pointer (some ⟨x,0,none⟩),.agg (fM c)] w (qU lab w x (Dv s c)):=by
 obtain⟨P,L,F,h,hjs,hL,hF⟩:=h;have⟨W,hW,bW,hC,hA,hz⟩:=gH w c;have l9:=h.top _ (aC _);have qW:lab (w.heap.size+1)=9:=h.top _ ak;have iX:5<=w.heap.size+1:=by have:=h.Gv;omega
 have hxl:=h.xlt;have h0:=(h.below bW).below (aA W);have M0:Mv lab lab w W.drew:=(Mv.of_below bW).below (aA W);have T0:pV x w.heap.size _ c W.drew:=⟨h0.blk,hC⟩;have oz:w.heap.size+1<W.drew.heap.size:=hz;have xA:=aqA h0.tree hn;rw[Iq]at xA;have lx:=h0.lx;have H0:Hid _:=h0;have yJ:Hid _:=M0;have HT0:Hid _:=T0;have HA:Hid (dB W.drew (w.heap.size+1)):=hA;clear h h0 M0 bW hC hA T0;unfold fM;go_enter func62,ntmps62;go_upto_region 1 with fail
 refine aG (S:=(pV x w.heap.size (cC s P) c)) (L:=99) aF ?_;have bG:=HT0.out;have HF:Hid (∀xx:ay,(pV x w.heap.size (cC s P) c) xx->_/\_/\True):=fun xx bJ=>⟨aj bJ.a (k:=9) rfl,aj bJ.b (k:=1) rfl,trivial⟩;refine tk 0 ?_;refine tk 1 ?_;refine tk 2 ?_;refine tk 3 ?_;refine tk 4 ?_;refine tk 5 ?_;refine last_one (i:=6) aF rfl ?_;intro K hK;go_simp;go_at_call 112;refine(xA).mono ?_;rintro e w1 ⟨rfl,hT1,k1⟩;have lH:=pV.fF bG k1 (by rw[lx];decide) (by rw[l9];decide);go_simp;refine jE hK lH ?_;clear hK K bG;refine last_one (i:=7) aF rfl ?_;intro K hK;go_simp;go_at_call 30;refine(iq _ _).mono ?_;rintro e w2 ⟨rfl,b2⟩;have⟨iJ,jW,hsA⟩:=dM (dB.below (dB.fF HA.out k1 (by rw[qW];decide)) b2);have ku:=pV.below lH b2;go_simp;refine jE hK ku ?_;clear hK K lH;refine last_one (i:=8) aF rfl ?_;intro K hK;rw[aJ iW];refine mW 42 (.tmp 4) (.tmp 12) rfl (w.heap.size+1) (d9 (coded (gK s.la c.nm).1) aV aV aV) gM gM 42 iJ jW.out Tryz.lJ hsA Fh ?_;refine hK.out _ _ (fun _=>pV.row ku ak ak _) (fun _=>?_);clear hK K;refine aO aF ?_ _;go_wp2;have h1:=H0.out.set1 k1 (la':=(gK s.la c.nm).2) (aiI _ _) hT1;have JB:uF lab 1 W.drew.heap.size w1.heap.size (w.heap.size+1)=9:=by rw[fu oz];exact qW
 exact eD results62 rfl rfl jW.out rfl ⟨_,_,rfl,⟨P,L,F,(h1.below b2).ret JB iX _,hjs,hL,hF⟩,((yJ.out.trans (Mv.lift aT k1)).below b2).ret ak _,iw _ _ _ _⟩
end
section
open Go.RowKit Wd Tr Cg Ld
def adI (l:List Ac) (nm pn:ByteArray) (sh:Int):((Tr.dJ l nm pn sh).2.1≠0/\(Tr.dJ l nm pn sh).2.2=l)\/((Tr.dJ l nm pn sh).2.1=0/\(Tr.dJ l nm pn sh).1=(l.length:Int)/\∃p:Nat,(Tr.dJ l nm pn sh).2.2=l++ [⟨nm,p,sh,false,0⟩]):=by
 grind[Tr.dJ]
def iH.avJ {W w1 w2:ay} {c:Cf} {now hd:Int} {la la':List Ac} {jw:List Jv} {P:EM} (h:iH lab W x c now hd la jw L F P) (k:aH (fun k=>lab k=1) W w1) (hT:Tree (Ex lab 1 W.heap.size) w1 P.t (la'.map aB) (gP (la'.map aB)))
  (k2:aH (fun k=>uF lab 1 W.heap.size w1.heap.size k=2) w1 w2) (hL:yT (Ex (uF lab 1 W.heap.size w1.heap.size) 2 w1.heap.size) w2 P.d c (nX la')):iH (uF (uF lab 1 W.heap.size w1.heap.size) 2 w1.heap.size w2.heap.size) w2 x c now hd la' jw L F P:=by
 have l:=h.lift aT k;have hT':=hT.mono (S':=fun k=>uF lab 1 W.heap.size w1.heap.size k=1) (fun _ hj hl=>uy hl hj);clear hT h k;generalize uF lab 1 W.heap.size w1.heap.size=lb at l hT' k2 hL;have hs:=k2.size;have hb:∀j,j<w1.heap.size->lb j≠2->w2.heap[j]?=w1.heap[j]?:=by grind[aH.block]
 have hgl:=Gu (l.free aT).tab;have hg:∀j,j<5->w2.heap[j]?=w1.heap[j]?:=by grind[Lf.gl]
 have hm:∀q,q≠9->∀j,j<w2.heap.size->lb j=q->uF lb 2 w1.heap.size w2.heap.size j=q:=fun q hq j _ hl=>by
  rw[fu (by
   grind[Lf.top])]
  omega
 have hx:=(aS.1 (l.blk aT)).1;exact⟨(hb x hx (by rw[l.lx];omega)).trans (l.blk aT),by grind[Lf.lx],(hT'.kept (fun j hj hl=>hb j hj ak)).mono (hm 1 ak),hL.mono (fun _ hj hl=>uy hl hj),((l.row aT).kept (fun j hj hl=>hb j hj ak)).mono (hm 3 ak),fun p hp=>((l.sets p hp).kept hs (fun j hj hl=>hb j hj ak)).mono (hm 7 ak),(l.wait aT).same (hb _ (l.wait aT).lt (by rw[l.lw];omega)),by rw[fu (l.wait aT).lt];exact l.lw,((l.due aT).kept k2 (fun j hj hk=>by omega)).mono (hm 5 ak),uw (l.free aT) (hb _ (l.free aT).lt (by rw[l.lb];omega)) (hg _ ak),by rw[fu (l.free aT).lt];exact l.lb,fun j hj=>by grind[fu,Lf.gl],sF l.vt (hg _ ak),sG l.rt (hg _ ak),fun j hj=>by grind[uF]⟩
def aiJ {S:Nat->Prop} {d:Nat} {c:Cf} {us:List Int} (h:yT S w d c us) (hl:us.length<64):Calls prog 109 #[.pointer (some ⟨d,0,none⟩)] w fun e w'=>(∃k,e=.returned (J k))/\yT (fun k=>S k\/w.heap.size<=k) w' d c (us++ [0])/\aH S w w':=by
 obtain⟨v,h1,h2⟩:=h;refine(Lr.ahu h1 (ni _) ak).mono fun e w' ⟨he,v',h3,h4,h5⟩=>⟨⟨_,he⟩,⟨v',h3,fun k hk=>?_⟩,(YP h4).mono (fun j _ hj=>h2 j hj)⟩;rcases hk with rfl | hk
 ·exact .inl (h2 _ (.inl rfl))
 ·rcases h5 with e5 | ⟨k',hk',e5⟩
  ·exact .inl (h2 k (.inr (by rw[← e5];exact hk)))
  ·rw[e5]at hk
   cases hk;exact .inr hk'
def Rz (h:Cr lab w x s) (v:Kept s) (c:Cd) (hn:c.nm.size<=maxLen) (hp:c.pa.size<=maxLen):Calls prog 59 #[.pointer (some ⟨x,0,none⟩),.agg (fM c)] w (qU lab w x (nD s c)):=by
 obtain⟨P,L,F,h,hjs,hL,hF⟩:=h;have⟨W,hW,bW,hC,hA,hz⟩:=gH w c;have l9:=h.top _ (aC _);have qW:lab (w.heap.size+1)=9:=h.top _ ak;have iX:5<=w.heap.size+1:=by have:=h.Gv;omega
 have hxl:=h.xlt;have h0:=(h.below bW).below (aA W);have M0:Mv lab lab w W.drew:=(Mv.of_below bW).below (aA W);have T0:pV x w.heap.size _ c W.drew:=⟨h0.blk,hC⟩;have oz:w.heap.size+1<W.drew.heap.size:=hz;have xA:=azO h0.tree v.wf hn hp c.sh;rw[add_plain]at xA;have hk:=adI s.la c.nm c.pa c.sh;have hlen:s.la.length<=64:=by have:=v.wf.len;simpa using this
 have lx:=h0.lx;have hS:nD s c=if (Tr.dJ s.la c.nm c.pa c.sh).2.1≠0 then(s,coded (Tr.dJ s.la c.nm c.pa c.sh).2.1)else({s with la:=(Tr.dJ s.la c.nm c.pa c.sh).2.2},{coded 0 with id:=(Tr.dJ s.la c.nm c.pa c.sh).1}):=rfl;have F8:(Tr.dJ s.la c.nm c.pa c.sh).2.1=0->s.la.length<64:=fun e=>by
  have hw:=v.wf.dJ c.nm c.pa c.sh;rw[add_plain]at hw;rcases hk with⟨h1,_⟩ | ⟨_,_,p,h1⟩
  ·exact absurd e h1
  ·have:=hw.len;rw[h1]at this;simp at this;omega
 generalize (Tr.dJ s.la c.nm c.pa c.sh)=R at xA hk hS F8;obtain⟨r0,r1,la'⟩:=R;simp only at xA hk hS F8;have H0:Hid _:=h0;have yJ:Hid _:=M0;have HT0:Hid _:=T0;have HK:Hid _:=hk;have HA:Hid (dB W.drew (w.heap.size+1)):=hA;clear h h0 M0 bW hC hA T0 hk;unfold fM;go_enter func59,ntmps59;go_upto_region 1 with fail
 refine aG (S:=(pV x w.heap.size (cC s P) c)) (L:=99) aF ?_;have bG:=HT0.out;have HF:Hid (∀xx:ay,(pV x w.heap.size (cC s P) c) xx->_/\_/\_/\_/\True):=fun xx bJ=>⟨aj bJ.a (k:=9) rfl,aj bJ.b (k:=1) rfl,aj bJ.b (k:=2) rfl,aj bJ.b (k:=3) rfl,trivial⟩;refine tk 0 ?_;refine tk 1 ?_;refine tk 2 ?_;refine tk 3 ?_;refine tk 4 ?_;refine tk 5 ?_;refine tk 6 ?_;refine tk 7 ?_;refine tk 8 ?_;refine tk 9 ?_;refine last_one (i:=10) aF rfl ?_;intro K hK;go_simp;go_at_call 108;refine(xA).mono ?_;rintro e w1 ⟨rfl,hT1,k1⟩;have lH:=pV.fF bG k1 (by rw[lx];decide) (by rw[l9];decide);go_simp;refine jE hK lH ?_;clear hK K bG;refine tk 11 ?_;refine tk 12 ?_;refine tk 13 ?_;refine tk 14 ?_;refine tk 15 ?_;refine aO aF ?_ _;have hA1:=dB.fF HA.out k1 (by rw[qW];decide);have JB:uF lab 1 W.drew.heap.size w1.heap.size (w.heap.size+1)=9:=by rw[fu oz];exact qW
 have hz1:=gL oz k1.size;by_cases h0:r1=0
 ·obtain ⟨e0,p,e1⟩:r0=(s.la.length:Int)/\∃p:Nat,la'=s.la++ [⟨c.nm,p,c.sh,false,0⟩]:=by
   rcases HK.out with⟨a1,_⟩ | ⟨_,a1,a2⟩
   ·exact absurd h0 a1
   ·exact ⟨a1,a2⟩
  subst e0;have hu:nX la'=nX s.la++ [0]:=by rw[e1];simp[nX]
  have hopen:=aiJ (((H0.out.lift aT k1)).led aT) (by rw[Dr];exact F8 h0)
  have x10:w1.cell? ⟨x,10,none⟩=some (.pointer (some ⟨P.d,0,none⟩)):=aj lH.a (k:=10) rfl;have HA1:Hid (dB w1 (w.heap.size+1)):=hA1;clear hA1 lH;subst h0;rw[au dF]at hS;go_wp2_with (first
   | (go_at_call 109;refine hopen.mono ?_;rintro e w2 ⟨⟨k0,rfl⟩,hL2,k2⟩;have⟨iJ,jW,hsA⟩:=dM (dB.fF HA1.out k2 (by rw[JB];decide)))
   | (refine eF rfl 42 (.tmp 4) (.tmp 33) rfl (w.heap.size+1) (d9 {coded 0 with id:=(s.la.length:Int)} aV aV aV) gM (by simp[Act.eval,d9,coded,aV,TN,cf0]) 42 iJ jW.out Tryz.lJ hsA Fh ?_))
  rw[hS];have h2:=H0.out.avJ k1 (la':=la') hT1 k2 (by rw[hu];exact hL2.mono (fun _ _ h=>h));have l92:uF (uF lab 1 W.drew.heap.size w1.heap.size) 2 w1.heap.size w2.heap.size (w.heap.size+1)=9:=by rw[fu hz1];exact JB
  exact eD results59 rfl rfl jW.out rfl ⟨_,_,rfl,⟨P,L,F,h2.ret l92 iX _,hjs,hL,hF⟩,((yJ.out.trans (Mv.lift aT k1)).trans (Mv.lift aT k2)).ret ak _,⟨_,_,_,none,0,rfl,vo _ _ _,rfl,jV _ _ _,sI _ _ _⟩⟩
 ·have e1:la'=s.la:=by
   rcases HK.out with⟨_,a1⟩ | ⟨a1,_⟩
   ·exact a1
   ·exact absurd a1 h0
  have d0:=dH h0;have q0:(r1==0)=false:=by simpa using h0
  rw[aJ h0]at hS;have HA1:Hid (dB w1 (w.heap.size+1)):=hA1;clear hA1 lH h0 HK;go_wp2_with (first
   | (go_at_call 30;refine(iq _ _).mono ?_;rintro e w2 ⟨rfl,b2⟩;have⟨iJ,jW,hsA⟩:=dM (dB.below HA1.out b2))
   | (refine eF rfl 42 (.tmp 4) (.tmp 24) rfl (w.heap.size+1) (d9 (coded r1) aV aV aV) gM gM 42 iJ jW.out Tryz.lJ hsA Fh ?_))
  rw[hS];have h1:=H0.out.set1 k1 (la':=la') (by rw[e1]) hT1;rw[e1]at h1;exact eD results59 rfl rfl jW.out rfl ⟨_,_,rfl,⟨P,L,F,(h1.below b2).ret JB iX _,hjs,hL,hF⟩,((yJ.out.trans (Mv.lift aT k1)).below b2).ret ak _,iw _ _ _ _⟩
def adJ (v:Kept s) (h:kH s.cf s.js F):((N2.Nd.mI F).length:Int)=dz s:=by
 grind[Kept.free,xk,Kept.rng,nJ.n0,nJ.n1]
def Y8 (h:Cr lab w x s) (v:Kept s) (c:Cd):Calls prog 66 #[.pointer (some ⟨x,0,none⟩),.agg (fM c)] w (qU lab w x (s,{coded 0 with free:=dz s})):=by
 obtain⟨P,L,F,h,hjs,hL,hF⟩:=h;have⟨W,hW,bW,hC,hA,hz⟩:=gH w c;have qW:lab (w.heap.size+1)=9:=h.top _ ak;have iX:5<=w.heap.size+1:=by have:=h.Gv;omega
 have h0:=h.below bW;have M0:Mv lab lab w W:=Mv.of_below bW;have x15:W.cell? ⟨x,15,none⟩=some (.pointer (some ⟨P.b,0,none⟩)):=h0.cell rfl;have hfree:=N2.Ey P.b _ F W h0.free;rw[adJ v hF]at hfree;have H0:Hid _:=h0;have yJ:Hid _:=M0;have⟨iJ,jW,hsA⟩:=dM hA;clear h h0 M0 bW hC hA hz;unfold fM;go_enter func66,ntmps66;go_wp2_with (first
  | (go_at_call 119;refine hfree.mono ?_;rintro e w1 ⟨rfl,rfl⟩)
  | (refine eF rfl 42 (.tmp 4) (.tmp 10) rfl (w.heap.size+1) (d9 {coded 0 with free:=dz s} aV aV aV) gM (by simp[Act.eval,d9,coded,aV,TN,cf0]) 42 iJ jW.out Tryz.lJ hsA Fh ?_))
 exact eD results66 rfl rfl jW.out rfl ⟨lab,_,rfl,⟨P,L,F,H0.out.ret qW iX _,hjs,hL,hF⟩,yJ.out.ret ak _,⟨_,_,_,none,0,rfl,vo _ _ _,rfl,jV _ _ _,sI _ _ _⟩⟩
def RB (h:Cr lab w x s) (v:Kept s) (c:Cd):Calls prog 67 #[.pointer (some ⟨x,0,none⟩),.agg (fM c)] w (qU lab w x (s,{coded 0 with cf:=s.cf,bnd:=bH s.cf})):=by
 obtain⟨P,L,F,h,hjs,hL,hF⟩:=h;have⟨W,hW,bW,hC,hA,hz⟩:=gH w c;have qW:lab (w.heap.size+1)=9:=h.top _ ak;have iX:5<=w.heap.size+1:=by have:=h.Gv;omega
 have hxl:=h.xlt;have h0:=(h.below bW).below (aA W);have M0:Mv lab lab w W.drew:=(Mv.of_below bW).below (aA W);have T0:pV x w.heap.size _ c W.drew:=⟨h0.blk,hC⟩;have H0:Hid _:=h0;have yJ:Hid _:=M0;have HT0:Hid _:=T0;have HA:Hid (dB W.drew (w.heap.size+1)):=hA;have HV:Hid _:=v;clear h h0 M0 bW hC hA hz T0 v;unfold fM;go_enter func67,ntmps67;go_upto_region 1 with fail
 refine aG (S:=(pV x w.heap.size (cC s P) c)) (L:=99) aF ?_;have bG:=HT0.out;have HF:Hid (∀xx:ay,(pV x w.heap.size (cC s P) c) xx->xx.cell? ⟨x,0,none⟩=some (J s.cf.nodes)/\xx.cell? ⟨x,1,none⟩=some (J s.cf.queue)/\xx.cell? ⟨x,2,none⟩=some (J s.cf.limit)/\xx.cell? ⟨x,3,none⟩=some (J s.cf.age)/\xx.cell? ⟨x,4,none⟩=some (J s.cf.fair)/\xx.cell? ⟨x,5,none⟩=some (J s.cf.size)/\xx.cell? ⟨x,6,none⟩=some (J s.cf.period)/\xx.cell? ⟨x,7,none⟩=some (J s.cf.half)/\True):=fun xx bJ=>⟨aj bJ.a rfl,aj bJ.a rfl,aj bJ.a rfl,aj bJ.a rfl,aj bJ.a rfl,aj bJ.a rfl,aj bJ.a rfl,aj bJ.a rfl,trivial⟩;refine tk 0 ?_;refine tk 1 ?_;refine tk 2 ?_;refine tk 3 ?_;refine tk 4 ?_;refine tk 5 ?_;refine tk 6 ?_;refine tk 7 ?_;refine last_one (i:=8) aF rfl ?_;intro K hK;go_simp;go_at_call 120;refine(KU HV.out.Ve _).mono ?_;rintro e w1 ⟨rfl,b1⟩;have⟨iJ,jW,hsA⟩:=dM (dB.below HA.out b1);have lH:=pV.below bG b1;go_simp;refine jE hK lH ?_;clear hK K bG;refine tk 9 ?_;refine last_one (i:=10) aF rfl ?_;intro K hK;rw[aJ iW];refine mW 42 (.tmp 4) (.tmp 14) rfl (w.heap.size+1) (d9 {coded 0 with cf:=s.cf,bnd:=bH s.cf} aV aV aV) gM (by simp[Act.eval,d9,coded,aV,TN,cf0]) 42 iJ jW.out Tryz.lJ hsA Fh ?_;refine hK.out _ _ (fun _=>pV.row lH ak ak _) (fun _=>?_);clear hK K;refine aO aF ?_ _;go_wp2;exact eD results67 rfl rfl jW.out rfl ⟨lab,_,rfl,⟨P,L,F,(H0.out.below b1).ret qW iX _,hjs,hL,hF⟩,(yJ.out.below b1).ret ak _,⟨_,_,_,none,0,rfl,vo _ _ _,rfl,jV _ _ _,sI _ _ _⟩⟩
def Iu:∀ {d m f:Nat},lX l d m->d<f->kX l f m=kX l (d+1) m
 | 0,m,f,h,hf=>by
  obtain⟨f',rfl⟩:∃f',f=f'+1:=⟨f - 1,by omega⟩
  grind[kX,lX]
 | d+1,m,f,h,hf=>by
  obtain⟨f',rfl⟩:∃f',f=f'+1:=⟨f - 1,by omega⟩
  unfold kX
  rw[au h.1,au h.1]
  cases ha:l[m]? with
  | none=>rfl
  | some a=>
   have h2:=h.2
   rw[D6 ha]at h2
   simp only
   rw[Iu h2 ak]
def VL {m d:Nat} {a:Ac} (hm:m≠0) (ha:l[m]?=some a):kX l (d+2) m=(a.cl||kX l (d+1) a.pa.toNat):=by
 grind[kX]
def EZ (l:List Ac):∀f n:Nat,kX (l.map aB) f n=kX l f n
 | 0,_=>rfl
 | f+1,n=>by
  unfold kX;rw[jI];split
  ·rfl
  ·cases l[n]? with
   | none=>rfl
   | some a=>exact aP (a.cl|| ·) (EZ l f a.pa.toNat)
def avK (h:Wf l) {a:Ac} (ha:l[n]?=some a) (hn:n≠0):0<=a.pa/\a.pa<l.length:=h.apZ n a ha ak
def RF {S:Nat->Prop} {x t:Nat} {A:Array Value} (hx:w.heap[x]?=some (.cells A 100 (0,0))) (hA:A[9]?=some (.pointer (some ⟨t,0,none⟩))) (hT:Tree S w t l (gP l)) (hw:Wf l) (hn:n<l.length):
  Calls prog 142 #[.pointer (some ⟨x,0,none⟩),J n] w fun e w'=>e=.returned (.bool (nH l n))/\Z w w':=by
 have⟨d0,hdv,hd0,M_⟩:=hw.depth hn;have hdl:=(zK hdv).2;have hget:=fun(W:ay) (b:Z w W) k=>azP (hT.kept (fun j hj _=>b.block j hj)) hw k;have hcell:∀W,Z w W->W.cell? ⟨x,9,none⟩=some (.pointer (some ⟨t,0,none⟩)):=fun W b=>aj ((b.block x (aS.1 hx).1).trans hx) hA;have hlen:=hw.len;have hst:nH l n=kX l (d0+1) n:=Iu M_ ak;clear hx hA hT hdv;go_enter func142,ntmps142;go_wp2;go_loopg [1] (d0+1) (fun gk pn wr=>∃(m d:Nat),gk=d+1/\pn=J m/\m<l.length/\Z w wr/\lX l d m/\nH l n=kX l (d+1) m)
 case atStart=>exact⟨n,d0,rfl,rfl,hn,aI _ _,M_,hst⟩
 case round=>
  obtain⟨m,d,rfl,rfl,hm,bw,hd,hinv⟩:=hrel;by_cases e0:m=0
  ·subst e0;have HE:Hid (nH l n=false):=show nH l n=false by rw[hinv];simp[kX]
   have HB:Hid _:=bw;clear hinv hd bw;go_wp2;go_ret;exact⟨by rw[HE.out];rfl,HB.out⟩
  ·obtain ⟨a,ha⟩:∃a,l[m]?=some a:=⟨_,aY ak⟩;have⟨p0,p1⟩:=avK hw ha e0;obtain⟨q,hq⟩:∃q:Nat,a.pa=q:=⟨a.pa.toNat,by omega⟩;obtain⟨d',rfl,hdq⟩:∃d',d=d'+1/\lX l d' q:=by
    cases d with
    | zero=>exact absurd hd e0
    | succ d'=>have h2:=hd.2;rw[D6 ha,hq,gJ]at h2;exact⟨d',rfl,h2⟩
   rw[VL e0 ha,hq,gJ]at hinv;have x9:=hcell _ bw;have hg:=hget _ bw (m:Int);have hth:jL l (m:Int)=true:=(by unfold jL;simp;omega);unfold akC at hg;rw[aJ hth,gJ,ha]at hg;simp only[pW]at hg;unfold Tm at hg;rw[hq]at hg;have e0':¬(m:Int)=0:=ak;have HB:Hid _:=bw;have HE:Hid _:=hinv;clear bw hget hcell hd ha hinv hth hst
   cases hc:a.cl with
   | true=>
    rw[hc]at hg;go_wp2_with (go_at_call 185;refine hg.mono ?_;rintro e w1 ⟨rfl,b1⟩)
    go_ret;refine⟨by rw[HE.out,hc];rfl,?_⟩;exact aoH
   | false=>
    rw[hc]at hg;go_wp2_with (go_at_call 185;refine hg.mono ?_;rintro e w1 ⟨rfl,b1⟩)
    go_roundg (d'+1)
    case measure=>omega
    case rel=>
     refine⟨q,d',rfl,rfl,by omega,?_,hdq,by rw[HE.out,hc];rfl⟩
     exact aoH
structure XnM (x n m:Nat) (A:Array Value) (c:Cd) (js:List Jv) (v:ay):Prop where
 a:v.heap[x]?=some (.cells A 100 (0,0))
 b:v.heap[n]?=some (.cells (fM c) 45 (0,0))
 m:jq v m js
theorem XnM.below {x n m:Nat} {A:Array Value} {c:Cd} {js:List Jv} {v v':ay} (h:XnM x n m A c js v) (k:Z v v'):XnM x n m A c js v':=⟨(k.block x (aS.1 h.a).1).trans h.a,(k.block n (aS.1 h.b).1).trans h.b,h.m.same (k.block m h.m.lt)⟩
def jB {B:Nat} {w v:ay} (h:Below B w v):Below B w v.drew:=⟨h.os,h.tape,h.output,h.size,h.block⟩
def VN {P:EM} (h:iH lab w x s.cf s.now s.hd s.la s.js L F P) (hjs:P.ps.map Pj.v=s.js) (v:Kept s) (c:Cd) (hn:n<s.la.length):
  Calls prog 101 #[.pointer (some ⟨x,0,none⟩),J n,.agg (fM c)] w fun e w'=>e=.returned (J (nY s n c))/\Z w w':=by
 have⟨W,hW⟩:=aZ (w.alloc (.cells #[J c.kind,.string c.nm,.string c.pa,J c.sh,J c.nd,J c.lm,J c.jb,J c.tk] 45));have bW:Z w W:=by rw[← hW];exact dY
 have hC:W.heap[w.heap.size]?=some (.cells (fM c) 45 (0,0)):=by rw[← hW];exact aK w _
 have h0:=h.below bW;have T0:XnM x w.heap.size P.wm _ c s.js W:=⟨h0.blk,hC,h0.wait⟩;have hcl:=RF h0.blk (t:=P.t) rfl h0.tree v.wf (n:=n) (by simpa using hn);have ecl:nH (s.la.map aB) n=nH s.la n:=by unfold nH;rw[dL,EZ]
 rw[ecl]at hcl;have hlen:P.ps.length=s.js.length:=by rw[← hjs,dL]
 have kI:=v.ok.many;have hbz:=wG v.rng;have hn0:=v.ok.n0;have hn1:=v.ok.n1;have HT0:Hid _:=T0;have DL:Hid _:=bW;have HV:Hid _:=v;clear h h0 bW hC T0 v hjs;unfold fM;go_enter func101,ntmps101
 cases hc:nH s.la n with
 | true=>
  rw[hc]at hcl;go_wp2_with (go_at_call 142;refine hcl.mono ?_;rintro e w1 ⟨rfl,b1⟩)
  go_ret;exact⟨by unfold nY;rw[aJ hc];rfl,DL.out.trans (b1.mono DL.out.size)⟩
 | false=>
  rw[hc]at hcl;have HC:Hid (¬nH s.la n=true):=show ¬nH s.la n=true by rw[hc];simp
  go_upto_region 3 with(go_at_call 142;refine hcl.mono ?_;rintro e w1 ⟨rfl,b1⟩)
  have b1':=DL.out.trans (b1.mono DL.out.size);have HT1:Hid _:=HT0.out.below b1;have HB1:Hid _:=b1';clear hcl HT0 DL b1 b1' hc;obtain⟨z3,hz3⟩:∃z:Bool,(decide (1<=c.nd)&&decide (c.nd<=s.cf.nodes))=z:=⟨_,rfl⟩;have hif:=fun W:World=>yj 1 s.cf.nodes c.nd W;rw[hz3]at hif;refine aG (S:=(XnM x w.heap.size P.wm (cC s P) c s.js)) (L:=99) aF ?_;have bG:=HT1.out.below (aA _);have HF:Hid (∀xx:ay,(XnM x w.heap.size P.wm (cC s P) c s.js) xx->xx.cell? ⟨x,0,none⟩=some (J s.cf.nodes)/\xx.cell? ⟨w.heap.size,4,none⟩=some (J c.nd)/\True):=fun xx bJ=>⟨aj bJ.a rfl,aj bJ.b rfl,trivial⟩;refine tk 0 ?_;refine tk 1 ?_;refine tk 2 ?_;refine tk 3 ?_;refine tk 4 ?_;refine tk 5 ?_;refine tk 6 ?_;refine last_one (i:=7) aF rfl ?_;intro K hK;go_simp;go_at_call 106;refine(hif _).mono ?_;rintro e v3 ⟨rfl,hv3⟩;have aro:Hid (v3=_):=hv3;clear hv3;have arp:(XnM x w.heap.size P.wm (cC s P) c s.js) v3:=by rw[aro.out];exact bG
  go_simp;refine jE hK arp ?_;clear hK K bG;refine tk 8 ?_;refine tk 9 ?_;refine aO aF ?_ _;have HB3:Hid _:=show Z w v3 by rw[aro.out];exact jB HB1.out
  have HT3:Hid _:=arp;clear hif arp HB1 HT1 aro
  cases z3 with
  | false=>
   have hbad:¬(1<=c.nd/\c.nd<=s.cf.nodes):=by intro hh;rw[dS hh.1,dS hh.2]at hz3;cases hz3
   go_wp2;go_ret
   exact⟨by unfold nY;rw[au HC.out,aJ hbad];rfl,HB3.out⟩
  | true=>
   have HN3:Hid (¬ ¬(1<=c.nd/\c.nd<=s.cf.nodes)):=show ¬ ¬(1<=c.nd/\c.nd<=s.cf.nodes) by simp at hz3;omega
   clear hz3;go_upto_region 5 with fail
   obtain⟨z5,Uz⟩:∃z:Bool,(decide (1<=c.lm)&&decide (c.lm<=s.cf.limit))=z:=⟨_,rfl⟩;have hif:=fun W:World=>yj 1 s.cf.limit c.lm W;rw[Uz]at hif;refine aG (S:=(XnM x w.heap.size P.wm (cC s P) c s.js)) (L:=99) aF ?_;have bG:=HT3.out.below (aA _);have HF:Hid (∀xx:ay,(XnM x w.heap.size P.wm (cC s P) c s.js) xx->xx.cell? ⟨x,2,none⟩=some (J s.cf.limit)/\xx.cell? ⟨w.heap.size,5,none⟩=some (J c.lm)/\True):=fun xx bJ=>⟨aj bJ.a rfl,aj bJ.b rfl,trivial⟩;refine tk 0 ?_;refine tk 1 ?_;refine tk 2 ?_;refine tk 3 ?_;refine tk 4 ?_;refine tk 5 ?_;refine tk 6 ?_;refine last_one (i:=7) aF rfl ?_;intro K hK;go_simp;go_at_call 106;refine(hif _).mono ?_;rintro e v5 ⟨rfl,hv5⟩;have arq:Hid (v5=_):=hv5;clear hv5;have ars:(XnM x w.heap.size P.wm (cC s P) c s.js) v5:=(by rw[arq.out];exact bG);go_simp;refine jE hK ars ?_;clear hK K bG;refine tk 8 ?_;refine tk 9 ?_;refine aO aF ?_ _;have Ya:Hid _:=show Z w v5 by rw[arq.out];exact jB HB3.out
   have HT5:Hid _:=ars;clear hif ars HB3 HT3 arq
   cases z5 with
   | false=>
    have hbad:¬(1<=c.lm/\c.lm<=s.cf.limit):=by intro hh;rw[dS hh.1,dS hh.2]at Uz;cases Uz
    go_wp2;go_ret
    exact⟨by unfold nY;rw[au HC.out,au HN3.out,aJ hbad];rfl,Ya.out⟩
   | true=>
    have HN5:Hid (¬ ¬(1<=c.lm/\c.lm<=s.cf.limit)):=show ¬ ¬(1<=c.lm/\c.lm<=s.cf.limit) by simp at Uz;omega
    clear Uz;go_upto_region 7 with fail
    refine aG (S:=(XnM x w.heap.size P.wm (cC s P) c s.js)) (L:=99) aF ?_;have bG:=HT5.out.below (aA _);have HF:Hid (∀xx:ay,(XnM x w.heap.size P.wm (cC s P) c s.js) xx->xx.cell? ⟨x,1,none⟩=some (J s.cf.queue)/\xx.cell? ⟨x,13,none⟩=some (.map (some P.wm))/\_/\True):=fun xx bJ=>⟨aj bJ.a rfl,aj bJ.a rfl,(fun ty=>bJ.m.len ty),trivial⟩;refine tk 0 ?_;refine tk 1 ?_;refine tk 2 ?_;refine tk 3 ?_;refine tk 4 ?_;refine tk 5 ?_;refine tk 6 ?_;refine tk 7 ?_;refine tk 8 ?_;refine tk 9 ?_;refine tk 10 ?_;refine tk 11 ?_;refine aO aF ?_ _;have HB7:Hid _:=jB Ya.out;have HT7:Hid _:=bG;clear bG Ya HT5;generalize v5.drew=v7 at HB7 HT7 ⊢;by_cases hq:s.cf.queue<=(gU s.js:Int)
    ·have HQ:Hid _:=hq;go_wp2;go_ret;exact⟨by unfold nY;rw[au HC.out,au HN3.out,au HN5.out,aJ HQ.out];rfl,HB7.out⟩
    ·have HQ:Hid _:=hq;have JA:v7.cell? ⟨x,11,none⟩=some (.slice P.jo P.ps.length P.cap):=aj HT7.out.a rfl;by_cases hr:4096<=s.js.length
     ·have HR:Hid _:=hr;have hr':(4096:Int)<=P.ps.length:=ak;go_wp2;go_ret;exact⟨by unfold nY;rw[au HC.out,au HN3.out,au HN5.out,au HQ.out,aJ HR.out];rfl,HB7.out⟩
     ·have HR:Hid _:=hr;have hr':¬(4096:Int)<=P.ps.length:=ak;go_upto_region 11 with fail
      clear JA;refine aG (S:=(XnM x w.heap.size P.wm (cC s P) c s.js)) (L:=99) aF ?_;have bG:=HT7.out.below (aA _);have HF:Hid (∀xx:ay,(XnM x w.heap.size P.wm (cC s P) c s.js) xx->xx.cell? ⟨x,0,none⟩=some (J s.cf.nodes)/\xx.cell? ⟨x,1,none⟩=some (J s.cf.queue)/\xx.cell? ⟨x,2,none⟩=some (J s.cf.limit)/\xx.cell? ⟨x,3,none⟩=some (J s.cf.age)/\xx.cell? ⟨x,4,none⟩=some (J s.cf.fair)/\xx.cell? ⟨x,5,none⟩=some (J s.cf.size)/\xx.cell? ⟨x,6,none⟩=some (J s.cf.period)/\xx.cell? ⟨x,7,none⟩=some (J s.cf.half)/\xx.cell? ⟨x,8,none⟩=some (J s.now)/\True):=fun xx bJ=>⟨aj bJ.a rfl,aj bJ.a rfl,aj bJ.a rfl,aj bJ.a rfl,aj bJ.a rfl,aj bJ.a rfl,aj bJ.a rfl,aj bJ.a rfl,aj bJ.a rfl,trivial⟩;refine tk 0 ?_;refine tk 1 ?_;refine tk 2 ?_;refine tk 3 ?_;refine tk 4 ?_;refine tk 5 ?_;refine tk 6 ?_;refine tk 7 ?_;refine last_one (i:=8) aF rfl ?_;intro K hK;go_simp;go_at_call 120;refine(KU HV.out.Ve _).mono ?_;rintro e v11 ⟨rfl,b11⟩;have apo:=bG.below b11;go_simp;refine jE hK apo ?_;clear hK K bG;refine tk 9 ?_;refine tk 10 ?_;refine tk 11 ?_;refine aO aF ?_ _;have avL:Hid _:=(jB HB7.out).trans (b11.mono HB7.out.size);clear apo HB7 HT7;have kw:IntKind.i64.wrap (s.now+bH s.cf)=s.now+bH s.cf:=(by rw[fO];omega);by_cases hh:1099511627776<s.now+bH s.cf
      ·have HH:Hid _:=hh;go_wp2;go_ret;exact⟨by unfold nY;rw[au HC.out,au HN3.out,au HN5.out,au HQ.out,au HR.out,aJ HH.out];rfl,avL.out⟩
      ·have HH:Hid _:=hh;go_wp2;go_ret;exact⟨by unfold nY;rw[au HC.out,au HN3.out,au HN5.out,au HQ.out,au HR.out,au HH.out];rfl,avL.out⟩
structure yL (x g:Nat) (A:Array Value) (w0 v:ay):Prop where
 a:v.heap[x]?=some (.cells A 100 (0,0))
 r:v.heap[g]?=w0.heap[g]?
section
variable {lab:Nat->Nat} {w:ay} {x:Nat} {c:Cf} {now hd:Int} {la:List Ac} {jw:List Jv} {L:List A3.Ag.En} {F:Nat} {P:EM}
def Y9 (h:iH lab w x c now hd la jw L F P) {p:Pj} (hp:P.ps[jw.length]?=some p) (h1:p.v.st=1) (hl:gU jw<1000000) (hj:jw.length<=1000000):
  Calls prog 82 #[.pointer (some ⟨x,0,none⟩),J jw.length] w fun e w'=>e=.returned (.tuple #[])/\∃lab',iH lab' w' x c now hd la (jw++ [p.v]) L F P/\Mv lab lab' w w':=by
 have h0:=h.below (aA w);have⟨g,hjo,hg,hgl,hc,hfz⟩:=h0.row.at hp;have⟨w1,hrun,hW1,ht1⟩:=h0.wait.put h1 hl (vB ak);have k1:aH (fun k=>lab k=4) w.drew w1:=(Gt ht1.grown).mono (fun j _ e=>by rw[e];exact h0.lw);have h2:=h0.ah4 k1 hW1;have M2:Mv lab _ w w1:=(Mv.of_below (aA w)).trans (Mv.lift aT k1);have hlt:=(bO.1 hp).1;have hl':(jw.length:Int)<P.ps.length:=ak;have T0:yL x g _ w.drew w.drew:=⟨h0.blk,rfl⟩;have c1:=hc 1 _ rfl;have c2:=hc 2 _ rfl;have T1:yL x g (cD c now hd P) w.drew w1:=⟨h2.blk,k1.block g hgl (by rw[hg];decide)⟩;unfold BU at hrun;have aAr:Hid _:=hrun;clear hrun;have H2:Hid _:=h2;have vS:Hid _:=M2;have HT0:Hid _:=T0;have HT1:Hid _:=T1;have KL:Hid _:=c1;have Sq:Hid _:=c2;clear h h0 hc hfz h2 M2 T0 T1 hW1 ht1 k1 c1 c2 hp;generalize jw.length=n at *;go_enter func82,ntmps82;refine aG (S:=(yL x g (cD c now hd P) w.drew)) (L:=99) aF ?_;have bG:=HT0.out;have HF:Hid (∀xx:ay,(yL x g (cD c now hd P) w.drew) xx->xx.cell? ⟨x,13,none⟩=some (.map (some P.wm))/\xx.cell? ⟨x,11,none⟩=some (.slice (some ⟨g,0,none⟩) P.ps.length P.cap)/\_/\_/\True):=fun xx bJ=>⟨aj bJ.a rfl,(by rw[← hjo];exact aj bJ.a rfl),fI KL.out bJ.r,fI Sq.out bJ.r,trivial⟩;refine tk 0 ?_;refine tk 1 ?_;refine tk 2 ?_;refine tk 3 ?_;refine tk 4 ?_;refine tk 5 ?_;refine tk 6 ?_;refine tk 7 ?_;refine tk 8 ?_;refine tk 9 ?_;refine tk 10 ?_;refine tk 11 ?_;refine tk 12 ?_;refine tk 13 ?_;refine tk 14 ?_;refine tk 15 ?_;refine tk 16 ?_;refine tk 17 ?_;refine tk 18 ?_;refine tk 19 ?_;refine tk 20 ?_;refine tk 21 ?_;refine tk 22 ?_;refine last_one (i:=23) aF rfl ?_;intro K hK;have hrun:=aAr.out;go_simp;refine jE hK HT1.out ?_;clear hK K;refine aO aF ?_ _;go_end0
 exact⟨rfl,_,H2.out,vS.out⟩
def Y_ (h:iH lab w x c now hd la jw L F P) {p:Pj} (hp:P.ps[n]?=some p) (hn:n<=1000000) (h0:0<=p.v.sr+p.v.lm) (h1:p.v.sr+p.v.lm<=1125899906842624) (hf:∀e∈L,e.id≠(n:Int)) (hL:L.length<=1000000):
  Calls prog 84 #[.pointer (some ⟨x,0,none⟩),J n] w fun e w'=>e=.returned (.tuple #[])/\∃lab',iH lab' w' x c now hd la jw (A3.Ag.I4 ⟨(n:Int),p.v.sr+p.v.lm⟩ L) F P/\Mv lab lab' w w':=by
 have hz:=h.below (aA w);have⟨g,hjo,hg,hgl,hc,hfz⟩:=hz.row.at hp;have⟨m,ao,hA,hAk⟩:=hz.due;have hadd:=A3.acX hA (n:Int) (p.v.sr+p.v.lm) (vB ak) (vB ak) hf ak;have hlt:=(bO.1 hp).1;have hl':(n:Int)<P.ps.length:=ak;have T0:yL x g _ w.drew w.drew:=⟨hz.blk,rfl⟩;have Sq:Hid _:=hc 2 _ rfl;have HC5:Hid _:=hc 5 _ rfl;have HZ:Hid _:=hz;have HT0:Hid _:=T0;have kw:IntKind.i64.wrap (p.v.sr+p.v.lm)=p.v.sr+p.v.lm:=by rw[fO];omega
 have lx:=hz.lx;clear h hz hc hfz T0 hp;go_enter func84,ntmps84;refine aG (S:=(yL x g (cD c now hd P) w.drew)) (L:=99) aF ?_;have bG:=HT0.out;have HF:Hid (∀xx:ay,(yL x g (cD c now hd P) w.drew) xx->xx.cell? ⟨x,14,none⟩=some (.pointer (some ⟨P.a,0,none⟩))/\xx.cell? ⟨x,11,none⟩=some (.slice (some ⟨g,0,none⟩) P.ps.length P.cap)/\_/\_/\True):=fun xx bJ=>⟨aj bJ.a rfl,(by rw[← hjo];exact aj bJ.a rfl),fI Sq.out bJ.r,fI HC5.out bJ.r,trivial⟩;refine tk 0 ?_;refine tk 1 ?_;refine tk 2 ?_;refine tk 3 ?_;refine tk 4 ?_;refine tk 5 ?_;refine tk 6 ?_;refine tk 7 ?_;refine tk 8 ?_;refine tk 9 ?_;refine tk 10 ?_;refine tk 11 ?_;refine tk 12 ?_;refine tk 13 ?_;refine tk 14 ?_;refine tk 15 ?_;refine tk 16 ?_;refine tk 17 ?_;refine tk 18 ?_;refine tk 19 ?_;refine tk 20 ?_;refine tk 21 ?_;refine tk 22 ?_;refine last_one (i:=23) aF rfl ?_;intro K hK;go_simp;go_at_call 137;refine(hadd).mono ?_;rintro e w1 ⟨rfl,ao1,hA1,hm1,k0⟩;have k1:=(YQ k0).mono (fun j _ hj=>hAk j hj);have lH:(yL x g (cD c now hd P) w.drew) w1:=⟨(k1.block x HZ.out.xlt (by rw[lx];decide)).trans HZ.out.blk,k1.block g hgl (by rw[hg];decide)⟩;go_simp;refine jE hK lH ?_;clear hK K bG;refine aO aF ?_ _;go_end0
 refine⟨rfl,_,HZ.out.Tk k1 ⟨m,ao1,hA1,fun k hk=>?_⟩,(Mv.of_below (aA w)).trans (Mv.lift aT k1)⟩;rcases hk with rfl | rfl | ⟨q,hq,rfl⟩
 ·exact .inl (hAk _ (.inl rfl))
 ·exact .inl (hAk _ (.inr (.inl rfl)))
 ·rcases hm1 with e | ⟨q',hq',e⟩
  ·exact .inl (hAk _ (.inr (.inr ⟨_,by rw[← e];exact hq,rfl⟩)))
  ·rw[e]at hq;cases hq;exact .inr hq'
end
end
section
open Go.RowKit Wd Tr Cg Ld
def Tryz.aq8:(prog.info? 38).map (fun i=>(i.zero,i.size,i.bytes))=some (some (.agg #[J 0,J 0,J 0,J 0,J 0,J 0,J 0,.slice none 0 0]),8,80):=aF
def asW (ps qs:List Pj):nZ (ps++qs)=nZ ps++nZ qs:=by simp[nZ]
def iH.app {V w4:ay} {c:Cf} {now hd:Int} {la:List Ac} {jw:List Jv} {P:EM} (h:iH lab V x c now hd la jw L F P) {g cap:Nat} {p:Pj} (hg:V.grownBy w4 (Value.slice P.jo P.ps.length P.cap).ownBlock) (hr:w4.ownsRow 0 38 8 (.slice (some ⟨g,0,none⟩) (P.ps.length+1) cap) (P.ps.length+1) (nZ P.ps++Dw p))
  (hat:(Value.slice P.jo P.ps.length P.cap).ownBlock=some g\/g=V.heap.size) (hgl:g<w4.heap.size) (hs:xg (fun k=>lab k=7) V p):
  ∃lab',iH lab' (w4.setCell ⟨x,11,none⟩ (.slice (some ⟨g,0,none⟩) (P.ps.length+1) cap)) x c now hd la jw L F {P with jo:=some ⟨g,0,none⟩,cap:=cap,ps:=P.ps++ [p]}/\Mv lab lab' V (w4.setCell ⟨x,11,none⟩ (.slice (some ⟨g,0,none⟩) (P.ps.length+1) cap)):=by
 have k3:aH (fun k=>lab k=3) V w4:=⟨hg.os,hg.tape,hg.output,hg.size,fun i hi hne=>hg.block i hi (fun e=>hne (h.row.2 i e.symm))⟩;have l:=h.lift aT k3;have hs':xg (fun k=>uF lab 3 V.heap.size w4.heap.size k=7) w4 p:=(hs.kept k3.size (fun j hj he=>k3.block j hj ak)).mono (fun j hj he=>by
  rw[fu (by
   grind[top])]
  omega)
 have lg:uF lab 3 V.heap.size w4.heap.size g=3:=uy (by
  rcases hat with e | e
  ·exact .inl (h.row.2 g e)
  omega) hgl
 refine⟨uF lab 3 V.heap.size w4.heap.size,?_,?_⟩
 ·generalize uF lab 3 V.heap.size w4.heap.size=lb at l lg hs';have hx:=(aS.1 (l.blk aT)).1;have hz:(w4.setCell ⟨x,11,none⟩ (.slice (some ⟨g,0,none⟩) (P.ps.length+1) cap)).heap.size=w4.heap.size:=by simp_all
  have kx:aH (fun k=>k=x) w4 (w4.setCell ⟨x,11,none⟩ (.slice (some ⟨g,0,none⟩) (P.ps.length+1) cap)):=by grind[aH.refl,aH.setCell]
  have hb:∀j,j<w4.heap.size->lb j≠0->(w4.setCell ⟨x,11,none⟩ (.slice (some ⟨g,0,none⟩) (P.ps.length+1) cap)).heap[j]?=w4.heap[j]?:=by grind[World.setCell,Lf.lx]
  have hbx:=bS w4 x 11 _ _ (.slice (some ⟨g,0,none⟩) (P.ps.length+1) cap) (l.blk aT);have hgl:=Gu (l.free aT).tab;have hgg:∀j,j<5->(w4.setCell ⟨x,11,none⟩ (.slice (some ⟨g,0,none⟩) (P.ps.length+1) cap)).heap[j]?=w4.heap[j]?:=by grind[Lf.gl]
  exact⟨by rw[hbx];simp[coreC],l.lx,(l.tree aT).kept (fun j hj hl=>hb j hj ak),(l.led aT).kept (fun j hj hl=>hb j hj ak),uq.kept (S:=fun k=>lb k=3) ⟨by grind[nZ],fun q hq=>by grind[Value.ownBlock]⟩ (fun j hj hl=>hb j hj ak),fun q hq=>by
   rcases pX.1 hq with hq | hq
   ·exact (l.sets q hq).kept ak (fun j hj hl=>hb j hj ak)
   grind[xg.kept],(l.wait aT).same (hb _ (l.wait aT).lt (by rw[l.lw];omega)),l.lw,(l.due aT).kept kx (fun j hj e=>by grind[Lf.lx]),uw (l.free aT) (hb _ (l.free aT).lt (by rw[l.lb];omega)) (hgg _ ak),l.lb,l.gl,sF l.vt (hgg _ ak),sG l.rt (hgg _ ak),fun j hj=>l.top j ak⟩
 ·refine (Mv.lift aT k3).trans ⟨fun _ _=>rfl,(aH.refl _ w4).setCell _ _ (.inl ?_)⟩;grind[Own,Lf.lx]
def Mv.xnb {lab lab':Nat->Nat} {w w':ay} (h:Mv lab lab' w w') {c:Cd} (hb:w.heap[n]?=some (.cells (fM c) 45 (0,0))) (h9:lab n=9):w'.heap[n]?=some (.cells (fM c) 45 (0,0)):=(h.fF.block n (aS.1 hb).1 (by unfold Own;omega)).trans hb
def amK (S:Nat->Prop) (W:ay) (j:Jv) (h:j.set= []):xg S W ⟨j,none,0⟩:=⟨⟨0,0,fun hh=>(by grind),fun k n hk=>(by grind)⟩,fun _=>⟨h,rfl⟩,by grind,by grind,fun g o k e=>(by grind)⟩
def VO (h:Cr lab w x s) (v:Kept s) (c:Cd) (hnm:c.nm.size<=maxLen):Calls prog 55 #[.pointer (some ⟨x,0,none⟩),.agg (fM c)] w (qU lab w x (lU s c)):=by
 obtain⟨P,L,F,h,hjs,hL,hF⟩:=h;have⟨W,hW,bW,hC,hA,hz⟩:=gH w c;have l9:=h.top _ (aC _);have qW:lab (w.heap.size+1)=9:=h.top _ ak;have iX:5<=w.heap.size+1:=by have:=h.Gv;omega
 have hxl:=h.xlt;have h0:=(h.below bW).below (aA W);have M0:Mv lab lab w W.drew:=(Mv.of_below bW).below (aA W);have T0:pV x w.heap.size _ c W.drew:=⟨h0.blk,hC⟩;have oz:w.heap.size+1<W.drew.heap.size:=hz;have hfind:=apc h0.tree hnm;rw[nP]at hfind;have lx:=h0.lx;have hlen:P.ps.length=s.js.length:=by rw[← hjs,dL]
 have kI:P.ps.length<=4096:=by rw[hlen];exact v.ok.many
 have HLEN:Hid _:=hlen;have H0:Hid _:=h0;have yJ:Hid _:=M0;have HT0:Hid _:=T0;have HA:Hid (dB W.drew (w.heap.size+1)):=hA;have HV:Hid _:=v;have hS:lU s c=match bq s.la c.nm with
  | none=>(s,coded 181)
  | some n=>if n=0 then(s,coded 181)else if nY s n c≠0 then(s,coded (nY s n c))
   else({s with js:=s.js++ [EG s n c]},{told [(⟨1,s.js.length,s.now,c.nd,c.lm,[]⟩:Hg)]with id:=s.js.length}):=rfl
 have hfl:∀n,bq s.la c.nm=some n->n<s.la.length:=fun n hn=>uQ hn;have⟨fd,hfd⟩:=aZ (bq s.la c.nm);rw[hfd]at hS hfind hfl;clear h h0 M0 bW hC hA T0 v hfd hlen;unfold fM;go_enter func55,ntmps55;go_upto_region 1 with fail
 refine aG (S:=(pV x w.heap.size (cC s P) c)) (L:=99) aF ?_;have bG:=HT0.out;have HF:Hid (∀xx:ay,(pV x w.heap.size (cC s P) c) xx->xx.cell? ⟨x,9,none⟩=some (.pointer (some ⟨P.t,0,none⟩))/\xx.cell? ⟨w.heap.size,1,none⟩=some (.string c.nm)/\True):=fun xx bJ=>⟨aj bJ.a rfl,aj bJ.b rfl,trivial⟩;refine tk 0 ?_;refine tk 1 ?_;refine tk 2 ?_;refine tk 3 ?_;refine tk 4 ?_;refine tk 5 ?_;refine last_one (i:=6) aF rfl ?_;intro K hK;go_simp;go_at_call 100;refine(hfind).mono ?_;rintro e w1 ⟨rfl,hw1⟩;have XQ:Hid (W.drew=w1):=hw1;clear hw1;have lH:(pV x w.heap.size (cC s P) c) w1:=by rw[← XQ.out];exact bG
 go_simp;refine jE hK lH ?_;clear hK K bG;refine tk 7 ?_;refine tk 8 ?_;refine tk 9 ?_;refine tk 10 ?_;refine tk 11 ?_;refine aO aF ?_ _;have HT1:Hid _:=lH;have H1:Hid _:=XQ.out▸H0.out;have Bu:Hid _:=XQ.out▸yJ.out;have HA1:Hid (dB w1 (w.heap.size+1)):=XQ.out▸HA.out;have hz1:=XQ.out▸oz;clear lH XQ H0 yJ HA oz HT0 hfind;by_cases h0:fd.getD 0=0
 ·have hS':lU s c=(s,coded 181):=by
   rw[hS]
   cases fd with
   | none=>rfl
   | some n=>simp only[pW]at h0;simp[h0]
  clear hS hfl;rw[h0]
  cases fd with
  | none=>exact atz
  | some n=>exact atz
 ·obtain ⟨n,rfl⟩:∃n,fd=some n:=by
   cases fd with
   | none=>exact absurd rfl h0
   | some n=>exact⟨n,rfl⟩
  simp only[pW]at h0;have hn:=hfl n rfl;replace hS:lU s c=if n=0 then(s,coded 181)else if nY s n c≠0 then(s,coded (nY s n c))
    else({s with js:=s.js++ [EG s n c]},{told [(⟨1,s.js.length,s.now,c.nd,c.lm,[]⟩:Hg)]with id:=s.js.length}):=hS
  rw[au h0]at hS;have hrf:=VN H1.out hjs HV.out c hn;have r0:=fK 0 HT1.out.b;have r1:=fK 1 HT1.out.b;have r2:=fK 2 HT1.out.b;have r3:=fK 3 HT1.out.b;have r4:=fK 4 HT1.out.b;have r5:=fK 5 HT1.out.b;have r6:=fK 6 HT1.out.b;have r7:=fK 7 HT1.out.b;have d0:decide ((n:Int)=0)=false:=dH ak;have q0:((n:Int)==0)=false:=by simpa using h0
  have e0:¬(n:Int)=0:=ak;by_cases hrz:nY s n c=0
  ·rw[au (by rw[hrz];simp)]at hS
   rw[hrz]at hrf;have HS:Hid _:=hS;clear hS hrz;unfold fM at hrf;go_upto_region 8 with(go_at_call 101;refine hrf.mono ?_;rintro e w2 ⟨rfl,b2⟩;have JA:w2.cell? ⟨x,11,none⟩=some (.slice P.jo P.ps.length P.cap):=aj (HT1.out.below b2).a rfl)
   have h2:=(H1.out.below b2).below (aA w2);have M2:=(Bu.out.below b2).below (aA w2);have A2:=dB.below HA1.out (jB b2);have T2:pV x w.heap.size _ c w2.drew:=HT1.out.below (jB b2);have hz2:w.heap.size+1<w2.drew.heap.size:=gL hz1 b2.size;have H2:Hid _:=h2;have vS:Hid _:=M2;have HA2:Hid (dB w2.drew (w.heap.size+1)):=A2;have HT2:Hid _:=T2;clear H1 Bu HA1 HT1 h2 M2 A2 T2 r0 r1 r2 r3 r4 r5 r6 r7 hrf JA hz1 d0 q0 e0 b2;have⟨i0,hi0,hi1,hi2,hi3⟩:=fA Tryz.aq8;have⟨W3,hW3⟩:=aZ (w2.drew.alloc (.cells #[J n,J c.nd,J c.lm,J s.now,J 1,J 0,J 0,.slice none 0 0] 38));have b3:Below w2.drew.heap.size w2.drew W3:=(by rw[← hW3];exact dY);have hJ3:W3.heap[w2.heap.size]?=some (.cells #[J n,J c.nd,J c.lm,J s.now,J 1,J 0,J 0,.slice none 0 0] 38 (0,0)):=(by rw[← hW3];exact aK w2.drew _);have H3:Hid _:=H2.out.below b3;have yK:Hid _:=vS.out.below b3;have HA3:Hid (dB W3 (w.heap.size+1)):=dB.below HA2.out b3;have EY:Hid _:=hJ3;have HB3:Hid _:=b3;have hz3:=gL hz2 b3.size;clear b3 hJ3;refine aG (S:=(pV x w.heap.size (cC s P) c)) (L:=19) aF ?_;have bG:=HT2.out;have HF:Hid (∀xx:ay,(pV x w.heap.size (cC s P) c) xx->xx.cell? ⟨x,8,none⟩=some (J s.now)/\xx.cell? ⟨x,11,none⟩=some (.slice P.jo P.ps.length P.cap)/\xx.cell? ⟨w.heap.size,4,none⟩=some (J c.nd)/\xx.cell? ⟨w.heap.size,5,none⟩=some (J c.lm)/\True):=fun xx bJ=>⟨aj bJ.a rfl,aj bJ.a rfl,aj bJ.b rfl,aj bJ.b rfl,trivial⟩;refine tc [0,19] 0 ?_;refine tc [1,19] 1 ?_;refine tc [2,19] 2 ?_;refine tc [3,19] 3 ?_;refine tc [4,19] 4 ?_;refine tc [5,19] 5 ?_;refine tc [6,19] 6 ?_;refine tc [7,19] 7 ?_;refine tc [8,19] 8 ?_;refine tc [9,19] 9 ?_;refine tc [10,19] 10 ?_;refine tc [11,19] 11 ?_;refine tc [12,19] 12 ?_;refine tc [13,19] 13 ?_;refine tc [14,19] 14 ?_;refine last_one (i:=15) aF rfl ?_;intro K hK;go_simp;try rw[hW3]
   clear hW3;have aru:=pV.below bG HB3.out;refine jE hK aru ?_;clear hK K;refine last_one (i:=16) aF rfl ?_;intro K hK;refine Cu _ iW (.tmp 43) (.tmp 54) 30 iW 0 38 i0 _ 8 80 underlying30 hi0 hi1 hi2 hi3 rfl aT (.slice P.jo P.ps.length P.cap) P.ps.length (nZ P.ps) gM H3.out.row.1 ⟨w2.heap.size,0,none⟩ 1 1 (Dw ⟨EG s n c,none,0⟩) gM rfl (vI (cs:= #[J n,J c.nd,J c.lm,J s.now,J 1,J 0,J 0,.slice none 0 0]) EY.out) (fun u hu=>by simp[Dw]at hu;rcases hu with rfl | rfl | rfl | rfl | rfl | rfl | rfl | rfl<;>rfl) ak (by unfold maxLen;omega) ak (ni _) W3.heap.size rfl ?_;intro g cap w4 hrow hgr hat hg4;have⟨Za,h5,M5⟩:=H3.out.app hgr hrow hat hg4 (amK _ _ _ rfl);have k3:aH (fun k=>lab k=3) W3 w4:=⟨hgr.os,hgr.tape,hgr.output,hgr.size,fun i hi hne=>hgr.block i hi (fun e=>hne (H3.out.row.2 i e.symm))⟩;have arv:=pV.fF aru k3 (by rw[lx];decide) (by rw[l9];decide);have apq:Hid _:=aru.b;have H5:Hid _:=h5;have IZ:Hid _:=M5;clear h5 M5 hrow hgr hat;go_simp;refine jE hK arv ?_;clear hK K;refine tc [17,18,19] 17 ?_;refine tc [18,19] 18 ?_;refine last_one (i:=19) aF rfl ?_;intro K hK;have JA:=fK 11 arv.a;have f11:w4.frozen? ⟨x,11,none⟩=false:=aD arv.a;go_simp;refine hK.out _ _ (fun h=>absurd rfl h) (fun _=>?_);clear hK K JA f11;refine aO aF ?_ _;clear H2 vS HA2 HT2 H3;have hlu:=Y9 H5.out (p:=⟨EG s n c,none,0⟩) (by show (P.ps++ [_])[s.js.length]?=_;rw[← HLEN.out];simp) rfl (by have:=akI s.js;have:=HLEN.out;omega) (by have:=HLEN.out;omega);rw[← HLEN.out]at hlu;have A5:=IZ.out.Y4 HA3.out qW;have HA5:Hid _:=A5;have C5:Hid _:=IZ.out.xnb apq.out l9;have Uz:=gL hz3 IZ.out.fF.size;have avM:Hid _:=yK.out.trans IZ.out;have L5:Hid (Za (w.heap.size+1)=9/\Za w.heap.size=9):=⟨(IZ.out.old _ hz3).trans qW,(IZ.out.old _ ak).trans l9⟩;clear A5 HA3 yK IZ apq;generalize w4.setCell ⟨x,11,none⟩ (.slice (some ⟨g,0,none⟩) (P.ps.length+1) cap)=w5 at *;go_upto_region 10 with(go_at_call 82;refine hlu.mono ?_;rintro e w6 ⟨rfl,arw,h6,M6⟩)
   have H6:Hid _:=h6.below (aA w6);have Ni:Hid _:=(avM.out.trans M6).below (aA w6);have HA6:Hid (dB w6.drew (w.heap.size+1)):=dB.below (M6.Y4 HA5.out L5.out.1) (aA w6);have HT6:Hid (pV x w.heap.size _ c w6.drew):=⟨H6.out.blk,M6.xnb C5.out L5.out.2⟩;have hz6:w.heap.size+1<w6.drew.heap.size:=gL Uz M6.fF.size;have L6:Hid (arw (w.heap.size+1)=9):=(M6.old _ Uz).trans L5.out.1;clear h6 M6 hlu H5 avM HA5 C5 L5 Uz;have⟨W7,hW7⟩:=aZ (w6.drew.alloc (.cells #[J 1,J P.ps.length,J s.now,J c.nd,J c.lm,.slice none 0 0] 65));have B7:Hid _:=show Below w6.drew.heap.size w6.drew W7 by rw[← hW7];exact dY
   have HE7:Hid (W7.heap[w6.heap.size]?=some (.cells (yX (⟨1,s.js.length,s.now,c.nd,c.lm,[]⟩:Hg) aV) 65 (0,0))):=show W7.heap[w6.heap.size]?=_ by rw[← hW7,<-HLEN.out];exact aK w6.drew _
   have⟨iJ,jW,hsA⟩:=dM (dB.below HA6.out B7.out);refine aG (S:=(pV x w.heap.size (coreC s.cf s.now P.t P.d (some ⟨g,0,none⟩) (P.ps++ [(⟨EG s n c,none,0⟩:Pj)]).length cap s.hd P.wm P.a P.b) c)) (L:=99) aF ?_;have bG:(pV x w.heap.size (coreC s.cf s.now P.t P.d (some ⟨g,0,none⟩) (P.ps++ [(⟨EG s n c,none,0⟩:Pj)]).length cap s.hd P.wm P.a P.b) c) (w6.drew):=HT6.out;have HF:Hid (∀xx:ay,(pV x w.heap.size (coreC s.cf s.now P.t P.d (some ⟨g,0,none⟩) (P.ps++ [(⟨EG s n c,none,0⟩:Pj)]).length cap s.hd P.wm P.a P.b) c) xx->xx.cell? ⟨x,8,none⟩=some (J s.now)/\xx.cell? ⟨w.heap.size,4,none⟩=some (J c.nd)/\xx.cell? ⟨w.heap.size,5,none⟩=some (J c.lm)/\True):=fun xx bJ=>⟨aj bJ.a rfl,aj bJ.b rfl,aj bJ.b rfl,trivial⟩;refine tk 0 ?_;refine tk 1 ?_;refine tk 2 ?_;refine tk 3 ?_;refine tk 4 ?_;refine tk 5 ?_;refine tk 6 ?_;refine tk 7 ?_;refine tk 8 ?_;refine tk 9 ?_;refine tk 10 ?_;refine last_one (i:=11) aF rfl ?_;intro K hK;go_simp;try rw[hW7]
   clear hW7;have VI:=pV.below bG B7.out;refine jE hK VI ?_;clear hK K;refine tk 12 ?_;refine last_one (i:=13) aF rfl ?_;intro K hK;rw[aJ iW];refine mW 42 (.tmp 4) (.tmp 73) rfl (w.heap.size+1) (d9 {told [(⟨1,s.js.length,s.now,c.nd,c.lm,[]⟩:Hg)]with id:=s.js.length} (.slice (some ⟨w6.heap.size,0,none⟩) 1 1) aV aV) gM (by simp[Act.eval,d9,coded,told,aV,TN,cf0,HLEN.out]) 42 iJ jW.out Tryz.lJ hsA Fh ?_;refine hK.out _ _ (fun _=>pV.row VI ak ak _) (fun _=>?_);clear hK K;refine aO aF ?_ _;go_wp2;rw[HS.out];have hE8:=(gX W7 (w.heap.size+1) w6.heap.size (d9 {told [(⟨1,s.js.length,s.now,c.nd,c.lm,[]⟩:Hg)]with id:=s.js.length} (.slice (some ⟨w6.heap.size,0,none⟩) 1 1) aV aV) (by have:w6.drew.heap.size=w6.heap.size:=rfl;omega)).trans HE7.out;refine eD results55 rfl rfl jW.out rfl ⟨arw,_,rfl,⟨_,L,F,(H6.out.below B7.out).ret L6.out iX _,?_,amn hL (by show (1:Int)≠2;decide),ah2 hF (by show (1:Int)≠2;decide)⟩,(Ni.out.below B7.out).ret ak _,⟨_,_,_,none,0,rfl,Rv hE8 (H6.out.top _ (aC _)) (by have:w6.drew.heap.size=w6.heap.size:=rfl;omega) rfl,rfl,jV _ _ _,sI _ _ _⟩⟩;show (P.ps++ [_]).map Pj.v=s.js++ [EG s n c];rw[p9,hjs];rfl
  ·have HS:Hid (lU s c=(s,coded (nY s n c))):=show lU s c=(s,coded (nY s n c)) by rw[hS,aJ hrz]
   clear hS;generalize nY s n c=y at *;have dy:=dH hrz;have qy:(y==0)=false:=(by simpa using hrz);clear hrz;unfold fM at hrf;go_wp2_with (first
    | (go_at_call 101;refine hrf.mono ?_;rintro e w2 ⟨rfl,b2⟩;have HA2:Hid (dB w2 (w.heap.size+1)):=dB.below HA1.out b2;have H2:Hid _:=H1.out.below b2;have vS:Hid _:=Bu.out.below b2;clear r0 r1 r2 r3 r4 r5 r6 r7)
    | (go_at_call 30;refine(iq _ _).mono ?_;rintro e w3 ⟨rfl,b3⟩;have⟨iJ,jW,hsA⟩:=dM (dB.below HA2.out b3))
    | (refine eF rfl 42 (.tmp 4) (.tmp 33) rfl (w.heap.size+1) (d9 (coded y) aV aV aV) gM gM 42 iJ jW.out Tryz.lJ hsA Fh ?_))
   rw[HS.out];exact eD results55 rfl rfl jW.out rfl ⟨lab,_,rfl,⟨P,L,F,(H2.out.below b3).ret qW iX _,hjs,hL,hF⟩,(vS.out.below b3).ret ak _,iw _ _ _ _⟩
end
end Go.Proofs.YtdhifkbbjlhcaaaGreatDoor
