import Derived.Test.YtdhifkbbjlhcaaaGreatDoorKz48
import Derived.Test.YtdhifkbbjlhcaaaGreatDoorKz47
set_option maxRecDepth 100000
set_option maxHeartbeats 4000000
set_option linter.defProp false
namespace Go.Proofs.YtdhifkbbjlhcaaaGreatDoor
open Go.Proofs.Tryz
variable {W w:ay} {ao bo:Option Addr} {c c' x:Nat} {cs:Array Value} {la:List Tr.Ac} {lab:Nat->Nat} {ps qs:List Pj} {s:Sv} {v:Value}
section
open Go.RowKit Wd Tr Cg Ld
def uO:Value:=.agg #[.nilFunc,.func (.func 55) #[] #[],.func (.func 56) #[] #[],.func (.func 57) #[] #[],.func (.func 58) #[] #[],.func (.func 59) #[] #[],.func (.func 60) #[] #[],.func (.func 61) #[] #[],.func (.func 62) #[] #[],.func (.func 63) #[] #[],.func (.func 64) #[] #[],.func (.func 65) #[] #[],.func (.func 66) #[] #[],.func (.func 67) #[] #[]]
def ajp (w:ay):(Instr.index 106 uO (J 1)).run prog w=.ok (.func (.func 55) #[] #[]) w:=aF
def ajq (w:ay):Calls prog 31 #[J 1] w fun e w'=>e=.returned (.func (.func 55) #[] #[])/\w'=w:=by
 have hq:=ajp;exact qb
def ajr (w:ay):(Instr.index 106 uO (J 2)).run prog w=.ok (.func (.func 56) #[] #[]) w:=aF
def ajs (w:ay):Calls prog 31 #[J 2] w fun e w'=>e=.returned (.func (.func 56) #[] #[])/\w'=w:=by
 have hq:=ajr;exact qb
def ajt (w:ay):(Instr.index 106 uO (J 3)).run prog w=.ok (.func (.func 57) #[] #[]) w:=aF
def aju (w:ay):Calls prog 31 #[J 3] w fun e w'=>e=.returned (.func (.func 57) #[] #[])/\w'=w:=by
 have hq:=ajt;exact qb
def ajv (w:ay):(Instr.index 106 uO (J 4)).run prog w=.ok (.func (.func 58) #[] #[]) w:=aF
def ajw (w:ay):Calls prog 31 #[J 4] w fun e w'=>e=.returned (.func (.func 58) #[] #[])/\w'=w:=by
 have hq:=ajv;exact qb
def ajx (w:ay):(Instr.index 106 uO (J 5)).run prog w=.ok (.func (.func 59) #[] #[]) w:=aF
def ajy (w:ay):Calls prog 31 #[J 5] w fun e w'=>e=.returned (.func (.func 59) #[] #[])/\w'=w:=by
 have hq:=ajx;exact qb
def ajz (w:ay):(Instr.index 106 uO (J 6)).run prog w=.ok (.func (.func 60) #[] #[]) w:=aF
def ajA (w:ay):Calls prog 31 #[J 6] w fun e w'=>e=.returned (.func (.func 60) #[] #[])/\w'=w:=by
 have hq:=ajz;exact qb
def ajB (w:ay):(Instr.index 106 uO (J 7)).run prog w=.ok (.func (.func 61) #[] #[]) w:=aF
def ajC (w:ay):Calls prog 31 #[J 7] w fun e w'=>e=.returned (.func (.func 61) #[] #[])/\w'=w:=by
 have hq:=ajB;exact qb
def ajD (w:ay):(Instr.index 106 uO (J 8)).run prog w=.ok (.func (.func 62) #[] #[]) w:=aF
def ajE (w:ay):Calls prog 31 #[J 8] w fun e w'=>e=.returned (.func (.func 62) #[] #[])/\w'=w:=by
 have hq:=ajD;exact qb
def ajF (w:ay):(Instr.index 106 uO (J 9)).run prog w=.ok (.func (.func 63) #[] #[]) w:=aF
def ajG (w:ay):Calls prog 31 #[J 9] w fun e w'=>e=.returned (.func (.func 63) #[] #[])/\w'=w:=by
 have hq:=ajF;exact qb
def aec (w:ay):(Instr.index 106 uO (J 10)).run prog w=.ok (.func (.func 64) #[] #[]) w:=aF
def aed (w:ay):Calls prog 31 #[J 10] w fun e w'=>e=.returned (.func (.func 64) #[] #[])/\w'=w:=by
 have hq:=aec;exact qb
def aee (w:ay):(Instr.index 106 uO (J 11)).run prog w=.ok (.func (.func 65) #[] #[]) w:=aF
def aef (w:ay):Calls prog 31 #[J 11] w fun e w'=>e=.returned (.func (.func 65) #[] #[])/\w'=w:=by
 have hq:=aee;exact qb
def aeg (w:ay):(Instr.index 106 uO (J 12)).run prog w=.ok (.func (.func 66) #[] #[]) w:=aF
def aeh (w:ay):Calls prog 31 #[J 12] w fun e w'=>e=.returned (.func (.func 66) #[] #[])/\w'=w:=by
 have hq:=aeg;exact qb
def aei (w:ay):(Instr.index 106 uO (J 13)).run prog w=.ok (.func (.func 67) #[] #[]) w:=aF
def aej (w:ay):Calls prog 31 #[J 13] w fun e w'=>e=.returned (.func (.func 67) #[] #[])/\w'=w:=by
 have hq:=aei;exact qb
def anm {B B' b:Nat} {a:FV} (h:VJ lab B W v a) (hb:b<B) (hB:B'<=B) (cs:Array Value):VJ lab B' (W.setRow b cs) v a:=by
 have hs:(W.setRow b cs).heap.size=W.heap.size:=by simp_all
 have hI:∀ {sa sc l},DF lab B W sa sc l->DF lab B' (W.setRow b cs) sa sc l:=fun {sa sc l} hi=>by
  have i8:=og (lab':=lab) (W':=W.setRow b cs) hi ak (fun _ _ h=>h) (fun g' o k e=>gX _ _ g' _ (by have:=(hi.own g' o k e).2.1;omega))
  exact⟨i8.at_,i8.nil,i8.cap,fun g' o k e=>by have⟨a1,a2,a3,a4⟩:=i8.own g' o k e;grind⟩
 obtain⟨ev,js,rk,sa,sc,e1,⟨ao,cap,ps,f1,f2,f3,f4,f5,f6⟩,e3,e4,⟨bo,bc,g1,g2,g3,g4⟩⟩:=h;refine⟨ev,js,rk,sa,sc,e1,⟨ao,cap,ps,f1,f2,f3,f4,fun g o k e=>?_,fun p hp=>hI (f6 p hp)⟩,e3,hI e4,⟨bo,bc,g1,g2,g3,fun g o k e=>?_⟩⟩
 ·grind[fI,gX]
 grind[fI,gX]
theorem Cr.below {W W':ay} (h:Cr lab W x s) (b:Z W W'):Cr lab W' x s:=by
 grind[iH.below,Cr]
theorem Cr.ret (h:Cr lab W x s) {b:Nat} (h9:lab b=9) (h5:5<=b) (cs:Array Value):Cr lab (W.setRow b cs) x s:=by
 grind[iH.ret,Cr]
def ajH (c:Cd):V8.cmV (vcm c)=.agg (fM c):=rfl
def asb (h:Cr lab w x s) (c:Cd) (hb:V8.tZ (vcm c)≠0):Calls prog 12 #[.pointer (some ⟨x,0,none⟩),.agg (fM c)] w (qU lab w x (s,coded (V8.tZ (vcm c)))):=by
 obtain⟨P,L,F,h,hjs,hL,hF⟩:=h;have⟨W,hW,bW,hC,hA,hz⟩:=gH w c;have qW:lab (w.heap.size+1)=9:=h.top _ ak;have iX:5<=w.heap.size+1:=by have:=h.Gv;omega
 have h0:=h.below bW;have hck:=V8.jA (vcm c) W h0.vt;rw[ajH]at hck;have q0:=fK 0 hC;have q1:=fK 1 hC;have q2:=fK 2 hC;have q3:=fK 3 hC;have q4:=fK 4 hC;have q5:=fK 5 hC;have q6:=fK 6 hC;have q7:=fK 7 hC;generalize V8.tZ (vcm c)=E at hb hck ⊢;have nb:(E != 0)=true:=by simpa using hb
 have H0:Hid _:=h;have HB:Hid _:=bW;have HA:Hid (dB W (w.heap.size+1)):=hA;clear h h0 bW hC hA hb;unfold fM at *;go_enter func12,ntmps12;go_wp2_with (first
  | (go_at_call 29;refine hck.mono ?_;rintro e w1 ⟨rfl,b1⟩;have HA1:Hid _:=dB.below HA.out b1)
  | (go_at_call 30;refine(iq _ _).mono ?_;rintro e w2 ⟨rfl,b2⟩;have⟨iJ,jW,hsA⟩:=dM (dB.below HA1.out b2))
  | (refine eF rfl 42 (.tmp 4) (.tmp 11) rfl (w.heap.size+1) (d9 (coded E) aV aV aV) gM gM 42 iJ jW.out Tryz.lJ hsA Fh ?_))
 have B3:=(HB.out.trans (b1.mono HB.out.size)).trans (b2.mono (bM HB.out.size b1.size));exact eD results12 rfl rfl jW.out rfl ⟨lab,_,rfl,⟨P,L,F,(H0.out.below B3).ret qW iX _,hjs,hL,hF⟩,(Mv.of_below B3).ret ak _,iw lab _ _ _⟩
def mM (h:Cr lab w x s) (c:Cd) (hb:V8.tZ (vcm c)=0) {m:Nat} {r:Sv×FV} (hde:∀V:ay,Calls prog 31 #[J c.kind] V fun e w'=>e=.returned (.func (.func m) #[] #[])/\w'=V) (hcf:∀(args:Array Value) (V:ay),(callFunc m args).run prog V=.ok (.enter m args) V) (hdo:∀V:ay,Cr lab V x s->Calls prog m #[.pointer (some ⟨x,0,none⟩),.agg (fM c)] V (qU lab V x r)):
  Calls prog 12 #[.pointer (some ⟨x,0,none⟩),.agg (fM c)] w (qU lab w x r):=by
 have⟨W,hW,bW,hC,hA,hz⟩:=gH w c;have l9:=Cr.top h _ (aC _);have qW:lab (w.heap.size+1)=9:=Cr.top h _ ak;have iX:5<=w.heap.size+1:=by obtain⟨P,L,F,h,_⟩:=h;have:=h.Gv;omega
 have WV:V8.Tab W:=by obtain⟨P,L,F,h,_⟩:=h;exact(h.below bW).vt
 have hck:=V8.jA (vcm c) W WV;rw[ajH,hb]at hck;have HCC:Hid _:=hC;have q0:=fK 0 hC;have q1:=fK 1 hC;have q2:=fK 2 hC;have q3:=fK 3 hC;have q4:=fK 4 hC;have q5:=fK 5 hC;have q6:=fK 6 hC;have q7:=fK 7 hC;have H0:Hid _:=h;have HB:Hid _:=bW;have HA:Hid (dB W (w.heap.size+1)):=hA;have HDO:Hid _:=hdo;have HDE:Hid _:=hde;have oz:w.heap.size+1<W.heap.size:=ak;clear h bW hC hA hb WV hdo hde;unfold fM at hck HDO ⊢;go_enter func12,ntmps12;go_upto_region 4 with(go_at_call 29;refine hck.mono ?_;rintro e w1 ⟨rfl,b1⟩)
 have HB1:Hid _:=(HB.out.trans (b1.mono HB.out.size)).trans ((aA w1).mono (bM HB.out.size b1.size));have HA1:Hid (dB w1.drew (w.heap.size+1)):=dB.below (dB.below HA.out b1) (aA w1);have KL:Hid (w1.drew.heap[w.heap.size]?=some (.cells (fM c) 45 (0,0))):=(b1.block _ ak).trans HCC.out;have hz1:w.heap.size+1<w1.drew.heap.size:=gL oz b1.size;have aBs:Hid (Cr lab w1.drew x s):=Cr.below H0.out HB1.out;clear b1 hck q0 q1 q2 q3 q4 q5 q6 q7 HCC hW;refine aG (S:=(fun V:World=>V.heap[w.heap.size]?=some (.cells (fM c) 45 (0,0)))) (L:=99) aF ?_;have bG:(fun V:World=>V.heap[w.heap.size]?=some (.cells (fM c) 45 (0,0))) (w1.drew):=KL.out;have HF:Hid (∀xx:ay,(fun V:World=>V.heap[w.heap.size]?=some (.cells (fM c) 45 (0,0))) xx->xx.cell? ⟨w.heap.size,0,none⟩=some (J c.kind)/\xx.cell? ⟨w.heap.size,1,none⟩=some (.string c.nm)/\xx.cell? ⟨w.heap.size,2,none⟩=some (.string c.pa)/\xx.cell? ⟨w.heap.size,3,none⟩=some (J c.sh)/\xx.cell? ⟨w.heap.size,4,none⟩=some (J c.nd)/\xx.cell? ⟨w.heap.size,5,none⟩=some (J c.lm)/\xx.cell? ⟨w.heap.size,6,none⟩=some (J c.jb)/\xx.cell? ⟨w.heap.size,7,none⟩=some (J c.tk)/\True):=fun xx bJ=>⟨aj bJ rfl,aj bJ rfl,aj bJ rfl,aj bJ rfl,aj bJ rfl,aj bJ rfl,aj bJ rfl,aj bJ rfl,trivial⟩;refine tk 0 ?_;refine tk 1 ?_;refine tk 3 ?_;refine tk 4 ?_;refine last_one (i:=2) aF rfl ?_;intro K hK;go_simp;go_at_call 31;refine(HDE.out _).mono ?_;rintro e wz ⟨rfl,rfl⟩;go_simp;refine jE hK bG ?_;clear hK K;refine last_one (i:=5) aF rfl ?_;intro K hK;go_simp;refine(HDO.out _ aBs.out).mono ?_;rintro e w2 ⟨oh,u2,rfl,aBt,M2,asc⟩;obtain⟨ev,jv,rk,sa2,sc2,rfl,hev,hjv,hio,Zg⟩:=asc;have awK:VJ oh w1.drew.heap.size w2 (.agg (d9 r.2 ev jv rk)) r.2:=⟨ev,jv,rk,sa2,sc2,rfl,hev,hjv,hio,Zg⟩;have hA2:=M2.Y4 HA1.out qW;have⟨iJ,jW,hsA⟩:=dM hA2;have ku:(fun V:World=>V.heap[w.heap.size]?=some (.cells (fM c) 45 (0,0))) w2:=(M2.fF.block _ ak (by unfold Own;rw[l9];decide)).trans KL.out;obtain⟨fa,fc,fps,rfl,_⟩:=hev;obtain⟨ga,gc,rfl,_⟩:=Zg;subst hjv;unfold d9;go_simp;refine jE hK ku ?_;clear hK K;refine last_one (i:=6) aF rfl ?_;intro K hK;rw[aJ iW];refine mW 42 (.tmp 4) (.tmp 17) rfl (w.heap.size+1) (d9 r.2 (.slice fa fps.length fc) (.slice sa2 r.2.job.set.length sc2) (.slice ga r.2.WK.length gc)) gM (by simp[Act.eval,d9]) 42 iJ jW.out Tryz.lJ hsA (by simp[d9,Value.oneCell']) ?_;refine hK.out _ _ (fun _=>(gX _ _ _ _ ak).trans ku) (fun _=>?_);clear hK K;refine aO aF ?_ _;go_wp2;have l92:=(M2.old _ hz1).trans qW;exact eD results12 rfl rfl jW.out rfl ⟨oh,_,rfl,Cr.ret aBt l92 iX _,((Mv.of_below HB1.out).trans M2).ret ak _,anm awK hz1 (by have:=HB1.out.size;omega) _⟩
def ano {c:Cd} (hb:V8.tZ (vcm c)=0):1<=c.kind/\c.kind<=13:=by
 grind[V8.tZ,V8.kM,vcm]
def ase (h:Cr lab w x s) (v:Kept s) (c:Cd) (hn:c.nm.size<=maxLen) (hp:c.pa.size<=maxLen):Calls prog 12 #[.pointer (some ⟨x,0,none⟩),.agg (fM c)] w (qU lab w x (yS s c)):=by
 unfold yS;by_cases hb:V8.tZ (vcm c)=0
 ·rw[au (fun e=>e hb)];have⟨k1,k2⟩:=ano hb;have hk:c.kind=1\/c.kind=2\/c.kind=3\/c.kind=4\/c.kind=5\/c.kind=6\/c.kind=7\/c.kind=8\/c.kind=9\/c.kind=10\/c.kind=11\/c.kind=12\/c.kind=13:=ak;unfold doS;rcases hk with e | e | e | e | e | e | e | e | e | e | e | e | e
  ·rw[aJ e];exact mM h c hb (fun V=>by rw[e];exact ajq V) (fun args V=>by kernel_rfl) (fun V hV=>VO hV v c hn)
  ·rw[au (by rw[e];decide),aJ e]
   exact mM h c hb (fun V=>by rw[e];exact ajs V) (fun args V=>by kernel_rfl) (fun V hV=>Y5 hV v c)
  ·rw[au (by rw[e];decide),au (by rw[e];decide),aJ e]
   exact mM h c hb (fun V=>by rw[e];exact aju V) (fun args V=>by kernel_rfl) (fun V hV=>RO hV v c)
  ·rw[au (by rw[e];decide),au (by rw[e];decide),au (by rw[e];decide),aJ e]
   exact mM h c hb (fun V=>by rw[e];exact ajw V) (fun args V=>by kernel_rfl) (fun V hV=>aeb hV v c)
  ·rw[au (by rw[e];decide),au (by rw[e];decide),au (by rw[e];decide),au (by rw[e];decide),aJ e]
   exact mM h c hb (fun V=>by rw[e];exact ajy V) (fun args V=>by kernel_rfl) (fun V hV=>Rz hV v c hn hp)
  ·rw[au (by rw[e];decide),au (by rw[e];decide),au (by rw[e];decide),au (by rw[e];decide),au (by rw[e];decide),aJ e]
   exact mM h c hb (fun V=>by rw[e];exact ajA V) (fun args V=>by kernel_rfl) (fun V hV=>VK hV c hn)
  ·rw[au (by rw[e];decide),au (by rw[e];decide),au (by rw[e];decide),au (by rw[e];decide),au (by rw[e];decide),au (by rw[e];decide),aJ e]
   exact mM h c hb (fun V=>by rw[e];exact ajC V) (fun args V=>by kernel_rfl) (fun V hV=>adH hV v c hn hp)
  ·rw[au (by rw[e];decide),au (by rw[e];decide),au (by rw[e];decide),au (by rw[e];decide),au (by rw[e];decide),au (by rw[e];decide),au (by rw[e];decide),aJ e]
   exact mM h c hb (fun V=>by rw[e];exact ajE V) (fun args V=>by kernel_rfl) (fun V hV=>Y7 hV c hn)
  ·rw[au (by rw[e];decide),au (by rw[e];decide),au (by rw[e];decide),au (by rw[e];decide),au (by rw[e];decide),au (by rw[e];decide),au (by rw[e];decide),au (by rw[e];decide),aJ e]
   exact mM h c hb (fun V=>by rw[e];exact ajG V) (fun args V=>by kernel_rfl) (fun V hV=>ang hV v c)
  ·rw[au (by rw[e];decide),au (by rw[e];decide),au (by rw[e];decide),au (by rw[e];decide),au (by rw[e];decide),au (by rw[e];decide),au (by rw[e];decide),au (by rw[e];decide),au (by rw[e];decide),aJ e]
   exact mM h c hb (fun V=>by rw[e];exact aed V) (fun args V=>by kernel_rfl) (fun V hV=>ad6 hV v c)
  ·rw[au (by rw[e];decide),au (by rw[e];decide),au (by rw[e];decide),au (by rw[e];decide),au (by rw[e];decide),au (by rw[e];decide),au (by rw[e];decide),au (by rw[e];decide),au (by rw[e];decide),au (by rw[e];decide),aJ e]
   exact mM h c hb (fun V=>by rw[e];exact aef V) (fun args V=>by kernel_rfl) (fun V hV=>ad8 hV v c hn)
  ·rw[au (by rw[e];decide),au (by rw[e];decide),au (by rw[e];decide),au (by rw[e];decide),au (by rw[e];decide),au (by rw[e];decide),au (by rw[e];decide),au (by rw[e];decide),au (by rw[e];decide),au (by rw[e];decide),au (by rw[e];decide),aJ e]
   exact mM h c hb (fun V=>by rw[e];exact aeh V) (fun args V=>by kernel_rfl) (fun V hV=>Y8 hV v c)
  ·rw[au (by rw[e];decide),au (by rw[e];decide),au (by rw[e];decide),au (by rw[e];decide),au (by rw[e];decide),au (by rw[e];decide),au (by rw[e];decide),au (by rw[e];decide),au (by rw[e];decide),au (by rw[e];decide),au (by rw[e];decide),au (by rw[e];decide)]
   exact mM h c hb (fun V=>by rw[e];exact aej V) (fun args V=>by kernel_rfl) (fun V hV=>RB hV v c)
 ·rw[aJ hb];exact asb h c hb
def aek {c:Cf} (h:gq c≠0):Calls prog 10 #[gY c] w fun e w'=>e=.returned (.tuple #[.pointer none,.bool true])/\Z w w':=by
 have⟨W,hW,bW,hG,hzE⟩:=sJ w #[J c.nodes,J c.queue,J c.limit,J c.age,J c.fair,J c.size,J c.period,J c.half] 23;have oz:w.heap.size<W.heap.size:=ak;have hq:=mU hG;simp only[Cs,Nat.reduceAdd]at hq;obtain⟨q0,q1,q2,q3,q4,q5,q6,q7, -⟩:=hq;have hnew:=aau (w:=W) h;have HRC:Hid (∀V:ay,_):=fun V=>CV c V;generalize gq c=E at h hnew HRC;have n1:(E==0)=false:=by simpa using h
 have d1:=dH h;have HB:Hid _:=bW;have HG:Hid _:=hG;unfold gY at *;clear h bW hG;go_enter func10,ntmps10;go_wp2_with (first
  | (go_at_call 24;refine hnew.mono ?_;rintro e w1 ⟨rfl,b1⟩;have hp:=mU (bP HG.out b1);simp only[Cs,Nat.reduceAdd]at hp;obtain⟨p0,p1,p2,p3,p4,p5,p6,p7, -⟩:=hp;have hrc:=HRC.out w1)
  | (go_at_call 26;refine hrc.mono ?_;rintro e w2 ⟨rfl,b2⟩))
 go_ret2
 exact⟨rfl,(HB.out.trans (b1.mono HB.out.size)).trans (b2.mono (bM HB.out.size b1.size))⟩
def Zl {c:Cf} (h:gq c=0) (WV:V8.Tab w) (hrt:Tab w) (hnt:N2.Tab w):Calls prog 10 #[gY c] w fun e w'=>∃x:Nat,e=.returned (.tuple #[.pointer (some ⟨x,0,none⟩),.bool true])/\∃lab,Cr lab w' x (newS c)/\(∀k,k<w.heap.size->lab k=9)/\Z w w':=by
 have⟨W,hW,bW,hG,hzE⟩:=sJ w #[J c.nodes,J c.queue,J c.limit,J c.age,J c.fair,J c.size,J c.period,J c.half] 23;have oz:w.heap.size<W.heap.size:=ak;have hq:=mU hG;simp only[Cs,Nat.reduceAdd]at hq;obtain⟨q0,q1,q2,q3,q4,q5,q6,q7, -⟩:=hq;have hg5:=Gu hnt;have hnew:=Wo (w:=W) h (sF WV (bW.block _ ak)) (sG hrt (bW.block _ ak)) (Jz hnt (bW.block _ ak));have HRC:Hid (∀V:ay,_):=fun V=>CV c V;rw[h]at HRC;have HB:Hid _:=bW;have HG:Hid _:=hG;unfold gY at *;clear h bW hG WV hrt hnt;go_enter func10,ntmps10;go_wp2_with (first
  | (go_at_call 24;refine hnew.mono ?_;rintro e w1 ⟨x,rfl,lab,hcr,hlab,b1⟩;have hp:=mU (bP HG.out b1);simp only[Cs,Nat.reduceAdd]at hp;obtain⟨p0,p1,p2,p3,p4,p5,p6,p7, -⟩:=hp;have hrc:=HRC.out w1;have HCR:Hid _:=hcr;clear hcr)
  | (go_at_call 26;refine hrc.mono ?_;rintro e w2 ⟨rfl,b2⟩))
 go_ret2
 exact⟨x,rfl,lab,Cr.below HCR.out b2,fun k hk=>hlab k ak,(HB.out.trans (b1.mono HB.out.size)).trans (b2.mono (bM HB.out.size b1.size))⟩
def yx {l:List Int} (hA:Rw.fD w ao l) (hB:Rw.fD w bo l) (hl:l.length<=1000000):
  Calls prog 32 #[.slice ao l.length c,.slice bo l.length c'] w fun e w'=>e=.returned (.bool true)/\Z w w':=by
 obtain⟨g,o,h1,h2⟩:=hA;obtain⟨g',o',h3,h4⟩:=hB;have⟨n,hn⟩:=aZ l.length;rw[hn]at h1 h3 hl ⊢;have H1:Hid _:=h1;have H2:Hid _:=h2;have H3:Hid _:=h3;have H4:Hid _:=h4;have HN:Hid _:=hn;clear h1 h2 h3 h4 hn;go_enter func32,ntmps32;go_wp2;go_loopg [5] n (fun gk p wr=>∃(k:Nat),k+gk=n/\p=J k/\Z w wr)
 case atStart=>exact⟨0,by omega,rfl,aI _ _⟩
 case round=>
  obtain⟨k,hk,rfl,hb⟩:=hrel;by_cases hlt:k<n
  ·have hlt':(k:Int)<n:=ak;obtain⟨z,hz⟩:∃z,l[k]?=some z:=⟨_,aY (by rw[HN.out];exact hlt)⟩;have e1:=H1.out ak;have e3:=H3.out ak;subst e1;subst e3;have c1:=aR hb (H2.out k z hz);have c2:=aR hb (H4.out k z hz);have HB:Hid _:=hb;clear hb hz;go_upto_region 6 with fail
   go_quiet (fail)
   have bV:=n_ wr nq;clear c1 c2;exact an_
  ·exact ZI
def GK {l:List Ac} (hA:kD w ao l) (hB:kD w bo l) (hl:l.length<=1000000):
  Calls prog 36 #[.slice ao l.length c,.slice bo l.length c'] w fun e w'=>e=.returned (.bool true)/\Z w w':=by
 obtain⟨g,o,h1,h2⟩:=hA;obtain⟨g',o',h3,h4⟩:=hB;have⟨n,hn⟩:=aZ l.length;rw[hn]at h1 h3 hl ⊢;have H1:Hid _:=h1;have H2:Hid _:=h2;have H3:Hid _:=h3;have H4:Hid _:=h4;have HN:Hid _:=hn;clear h1 h2 h3 h4 hn;go_enter func36,ntmps36;go_wp2;go_loopg [5] n (fun gk p wr=>∃(k:Nat),k+gk=n/\p=J k/\Z w wr)
 case atStart=>exact⟨0,by omega,rfl,aI _ _⟩
 case round=>
  obtain⟨k,hk,rfl,hb⟩:=hrel;by_cases hlt:k<n
  ·have hlt':(k:Int)<n:=ak;obtain⟨z,hz⟩:∃z,l[k]?=some z:=⟨_,aY (by rw[HN.out];exact hlt)⟩;have e1:=H1.out ak;have e3:=H3.out ak;subst e1;subst e3;have⟨a0,a1,a2,a3,a4⟩:=(H2.out k z hz).below hb;have⟨b0,b1,b2,b3,b4⟩:=(H4.out k z hz).below hb;have HB:Hid _:=hb;clear hb hz;go_upto_region 6 with fail
   go_quiet (fail)
   have bV:=n_ wr nq;clear a0 a1 a2 a3 a4 b0 b1 b2 b3 b4;exact an_
  ·exact ZI
def IG (j:Jv) (sa sb:Option Addr) (n sc sd:Nat):
  Calls prog 40 #[.agg (BK j (.slice sa n sc)),.agg (BK j (.slice sb n sd))] w fun e w'=>e=.returned (.bool true)/\Z w w':=by
 obtain⟨W,hW,bW,hB,hR, -⟩:=E_ w #[J j.ac,J j.nd,J j.lm,J j.sb,J j.st,J j.sr,J j.en,.slice sa n sc] #[J j.ac,J j.nd,J j.lm,J j.sb,J j.st,J j.sr,J j.en,.slice sb n sd] 38 38;have hx:=mU hB;have hy:=mU hR;simp only[Cs,Nat.reduceAdd]at hx hy;obtain⟨a0,a1,a2,a3,a4,a5,a6,a7, -⟩:=hx;obtain⟨b0,b1,b2,b3,b4,b5,b6,b7, -⟩:=hy;have HB:Hid _:=bW;unfold BK;clear hB hR bW;go_enter func40,ntmps40;go_wp2;go_ret;exact⟨rfl,HB.out⟩
def MG (W:ay) (ao:Option Addr) (ps:List Pj):Prop:=∃g o,(0<ps.length->ao=some ⟨g,o,none⟩)/\∀(k:Nat) (p:Pj),ps[k]?=some p->(∀i v,(Dw p)[i]?=some v->W.cell? ⟨g,o+k*8+i,none⟩=some v)/\Rw.fD W p.sa p.v.set
theorem MG.below {W W':ay} (h:MG W ao ps) (b:Z W W'):MG W' ao ps:=by
 grind[aR,Rw.fD.below,MG]
def RX (hA:MG w ao ps) (hB:MG w bo qs) (he:ps.map Pj.v=qs.map Pj.v) (hl:ps.length<=1000000):
  Calls prog 71 #[.slice ao ps.length c,.slice bo qs.length c'] w fun e w'=>e=.returned (.bool true)/\Z w w':=by
 have hlen:qs.length=ps.length:=by have:=aP List.length he;simpa using this.symm
 have⟨n,hn⟩:=aZ ps.length;rw[hlen,hn];rw[hn]at hl;have HAT:Hid (∀k,k<n->∀W,Z w W->∃(p q:Pj) (g o g' o':Nat),p.v=q.v/\ao=some ⟨g,o,none⟩/\bo=some ⟨g',o',none⟩/\(∀i v,(Dw p)[i]?=some v->W.cell? ⟨g,o+k*8+i,none⟩=some v)/\(∀i v,(Dw q)[i]?=some v->W.cell? ⟨g',o'+k*8+i,none⟩=some v)):=fun k hk W b=>by
  have⟨g,o,h1,h2⟩:=hA.below b;have⟨g',o',h3,h4⟩:=hB.below b;have hp:ps[k]?=some ps[k]:=aY ak;have hq:qs[k]?=some qs[k]:=aY ak;refine⟨_,_,g,o,g',o',?_,h1 ak,h3 ak,(h2 k _ hp).1,(h4 k _ hq).1⟩;have e1:(ps.map Pj.v)[k]?=some ps[k].v:=by rw[jI,hp];rfl
  rw[he,jI,hq]at e1;exact(ji e1).symm
 clear hA hB he hlen hn;go_enter func71,ntmps71;go_wp2;go_loopg [5,6] n (fun gk p u wr=>∃(k:Nat),k+gk=n/\p=J k/\Z w wr)
 case atStart=>exact⟨0,by omega,rfl,aI _ _⟩
 case round=>
  obtain⟨k,hk,rfl,hb⟩:=hrel;by_cases hlt:k<n
  ·have hlt':(k:Int)<n:=ak;obtain⟨p,q,g,o,g',o',hv,rfl,rfl,hp,hq⟩:=HAT.out k hlt wr.drew (hb.trans ((aA wr).mono hb.size));obtain⟨qv,qa,qc⟩:=q;simp only at hv;subst hv;have HP:Hid _:=hp;have HQ:Hid (∀i v,(Dw ⟨p.v,qa,qc⟩)[i]?=some v->wr.drew.cell? ⟨g',o'+k*8+i,none⟩=some v):=hq;have HB:Hid _:=hb;have hsj:=fun(V:ay)=>IG (w:=V) p.v p.sa qa p.v.set.length p.sc qc;unfold BK at hsj;clear hp hq hb;go_upto_region 6 with fail
   refine aG (S:=(Below wr.drew.heap.size wr.drew)) (L:=99) aF ?_;have bG:(Below wr.drew.heap.size wr.drew) (wr.drew):=aI _ _;have HF:Hid (∀xx:ay,(Below wr.drew.heap.size wr.drew) xx->xx.cell? ⟨g,o+k*8,none⟩=some (J p.v.ac)/\_/\_/\_/\_/\_/\_/\_/\xx.cell? ⟨g',o'+k*8,none⟩=some (J p.v.ac)/\xx.cell? ⟨g',o'+k*8+1,none⟩=some (J p.v.nd)/\xx.cell? ⟨g',o'+k*8+2,none⟩=some (J p.v.lm)/\xx.cell? ⟨g',o'+k*8+3,none⟩=some (J p.v.sb)/\xx.cell? ⟨g',o'+k*8+4,none⟩=some (J p.v.st)/\xx.cell? ⟨g',o'+k*8+5,none⟩=some (J p.v.sr)/\xx.cell? ⟨g',o'+k*8+6,none⟩=some (J p.v.en)/\xx.cell? ⟨g',o'+k*8+7,none⟩=some (.slice qa p.v.set.length qc)/\True):=fun xx bJ=>⟨aR bJ (HP.out 0 _ rfl),aR bJ (HP.out 1 _ rfl),aR bJ (HP.out 2 _ rfl),aR bJ (HP.out 3 _ rfl),aR bJ (HP.out 4 _ rfl),aR bJ (HP.out 5 _ rfl),aR bJ (HP.out 6 _ rfl),aR bJ (HP.out 7 _ rfl),aR bJ (HQ.out 0 _ rfl),aR bJ (HQ.out 1 _ rfl),aR bJ (HQ.out 2 _ rfl),aR bJ (HQ.out 3 _ rfl),aR bJ (HQ.out 4 _ rfl),aR bJ (HQ.out 5 _ rfl),aR bJ (HQ.out 6 _ rfl),aR bJ (HQ.out 7 _ rfl),trivial⟩;refine tk 0 ?_;refine tk 1 ?_;refine tk 2 ?_;refine tk 3 ?_;refine tk 4 ?_;refine tk 5 ?_;refine tk 6 ?_;refine tk 7 ?_;refine last_one (i:=8) aF rfl ?_;intro K hK;go_simp;go_at_call 40;refine(hsj _).mono ?_;rintro e w2 ⟨rfl,b2⟩;have ku:=b2;go_simp;refine jE hK ku ?_;clear hK K bG;refine tk 9 ?_;refine aO aF ?_ _;have B2:=ku;go_wp2;go_roundg (n - (k+1))
   case measure=>omega
   case rel=>exact⟨k+1,by omega,by go_num,(HB.out.trans ((aA wr).mono HB.out.size)).trans (jm B2 HB.out.size)⟩
  ·exact ZI
def RY (hA:MG w ao ps) (hB:MG w bo qs) (he:ps.map Pj.v=qs.map Pj.v) (hl:ps.length<=1000000) (hs:∀p∈ps,p.v.set.length<=1000000):
  Calls prog 37 #[.slice ao ps.length c,.slice bo qs.length c'] w fun e w'=>e=.returned (.bool true)/\Z w w':=by
 have hhd:=RX (c:=c) (c':=c') hA hB he hl;have hlen:qs.length=ps.length:=by have:=aP List.length he;simpa using this.symm
 have⟨n,hn⟩:=aZ ps.length;rw[hlen,hn]at hhd ⊢;rw[hn]at hl;have HAT:Hid (∀k,k<n->∀W,Z w W->∃(p:Pj) (qa:Option Addr) (qc g o g' o':Nat),p.v.set.length<=1000000/\ao=some ⟨g,o,none⟩/\bo=some ⟨g',o',none⟩/\W.cell? ⟨g,o+k*8+7,none⟩=some (.slice p.sa p.v.set.length p.sc)/\W.cell? ⟨g',o'+k*8+7,none⟩=some (.slice qa p.v.set.length qc)/\Rw.fD W p.sa p.v.set/\Rw.fD W qa p.v.set):=fun k hk W b=>by
  have⟨g,o,h1,h2⟩:=hA.below b;have⟨g',o',h3,h4⟩:=hB.below b;have hp:ps[k]?=some ps[k]:=aY ak;have hq:qs[k]?=some qs[k]:=aY ak;have e1:(ps.map Pj.v)[k]?=some ps[k].v:=by rw[jI,hp];rfl
  rw[he,jI,hq]at e1;have e2:=ji e1;have⟨q1,q2⟩:=h4 k _ hq;have q3:=q1 7 _ rfl;rw[e2]at q2 q3;exact⟨ps[k],qs[k].sa,qs[k].sc,g,o,g',o',hs _ (tH _),h1 ak,h3 ak,(h2 k _ hp).1 7 _ rfl,q3,(h2 k _ hp).2,q2⟩
 clear hA hB he hlen hn hs;go_enter func37,ntmps37;go_wp2_with (go_at_call 71;refine hhd.mono ?_;rintro e w1 ⟨rfl,b1⟩)
 have HB1:Hid _:=b1;clear b1 hhd;go_loopg [5,6] n (fun gk u p wr=>∃(k:Nat),k+gk=n/\u=.bool true/\p=J k/\Z w wr)
 case atStart=>exact⟨0,by omega,rfl,rfl,HB1.out⟩
 case round=>
  obtain⟨k,hk,rfl,rfl,hb⟩:=hrel;by_cases hlt:k<n
  ·have hlt':(k:Int)<n:=ak;obtain⟨p,qa,qc,g,o,g',o',hsl,rfl,rfl,hp,hq,hi,hj⟩:=HAT.out k hlt wr.drew (hb.trans ((aA wr).mono hb.size));have HP:Hid _:=hp;have HQ:Hid _:=hq;have HB:Hid _:=hb;have hsi:=yx (c:=p.sc) (c':=qc) hi hj hsl;clear hp hq hb hi hj;go_upto_region 5 with fail
   refine aG (S:=(Below wr.drew.heap.size wr.drew)) (L:=99) aF ?_;have bG:(Below wr.drew.heap.size wr.drew) (wr.drew):=aI _ _;have HF:Hid (∀xx:ay,(Below wr.drew.heap.size wr.drew) xx->_/\_/\True):=fun xx bJ=>⟨aR bJ HP.out,aR bJ HQ.out,trivial⟩;refine tk 0 ?_;refine tk 1 ?_;refine tk 2 ?_;refine tk 3 ?_;refine tk 4 ?_;refine tk 5 ?_;refine tk 6 ?_;refine tk 7 ?_;refine tk 8 ?_;refine tk 9 ?_;refine last_one (i:=10) aF rfl ?_;intro K hK;go_simp;go_at_call 32;refine(hsi).mono ?_;rintro e w2 ⟨rfl,b2⟩;have ku:=b2;go_simp;refine jE hK ku ?_;clear hK K bG;refine tk 11 ?_;refine aO aF ?_ _;have B2:=ku;go_wp2;go_roundg (n - (k+1))
   case measure=>omega
   case rel=>exact⟨k+1,by omega,rfl,by go_num,(HB.out.trans ((aA wr).mono HB.out.size)).trans (jm B2 HB.out.size)⟩
  ·exact ZI
def Nt {c:Cf} {now hd:Int} {ua ub ja jb:Option Addr} {uc ud jc jd:Nat} (hA:kD w ua la) (hB:kD w ub la) (hl:la.length<=1000000) (hJ:MG w ja ps) (hK:MG w jb qs) (he:ps.map Pj.v=qs.map Pj.v) (hl2:ps.length<=1000000) (hs:∀p∈ps,p.v.set.length<=1000000):
  Calls prog 22 #[.agg (uL c now (.slice ua la.length uc) (.slice ja ps.length jc) hd),.agg (uL c now (.slice ub la.length ud) (.slice jb qs.length jd) hd)] w fun e w'=>e=.returned (.bool true)/\Z w w':=by
 have⟨W,hW,bW,hX,hY,oz⟩:=E_ w #[J c.nodes,J c.queue,J c.limit,J c.age,J c.fair,J c.size,J c.period,J c.half,J now,.slice ua la.length uc,.slice ja ps.length jc,J hd] #[J c.nodes,J c.queue,J c.limit,J c.age,J c.fair,J c.size,J c.period,J c.half,J now,.slice ub la.length ud,.slice jb qs.length jd,J hd] 32 32;have HAC:Hid (∀V:ay,Z w V->_):=fun V b=>GK (c:=uc) (c':=ud) (hA.below b) (hB.below b) hl;have HJB:Hid (∀V:ay,Z w V->_):=fun V b=>RY (c:=jc) (c':=jd) (hJ.below b) (hK.below b) he hl2 hs;have hac:=HAC.out W bW;have HB:Hid _:=bW;have HX:Hid _:=hX;have HY:Hid _:=hY;have HZ:Hid _:=oz;have hx:=mU hX;have hy:=mU hY;simp only[Cs,Nat.reduceAdd]at hx hy;obtain⟨a0,a1,a2,a3,a4,a5,a6,a7,a8,a9,a10,a11, -⟩:=hx;obtain⟨b0,b1,b2,b3,b4,b5,b6,b7,b8,b9,b10,b11, -⟩:=hy;clear hX hY hA hB hJ hK he hs bW oz;unfold uL;go_enter func22,ntmps22;go_wp2_with (first
  | (go_at_call 36;refine hac.mono ?_;rintro e w1 ⟨rfl,b1⟩;have hX1:=bP HX.out b1;have hY1:=bP HY.out b1;have B1:=HB.out.trans (b1.mono HB.out.size);have hjb:=HJB.out w1 B1;have x10:=fK 10 hX1;have y10:w1.cell? ⟨w.heap.size+1,10,none⟩=some (.slice jb qs.length jd):=aj hY1 rfl)
  | (go_at_call 37;refine hjb.mono ?_;rintro e w2 ⟨rfl,b2⟩;have hx:=mU (bP hX1 b2);have hy:=mU (bP hY1 b2);simp only[Cs,Nat.reduceAdd]at hx hy;obtain⟨x0,x1,x2,x3,x4,x5,x6,x7,x8, -, -,JA, -⟩:=hx;obtain⟨y0,y1,y2,y3,y4,y5,y6,y7,y8, -, -,y11, -⟩:=hy))
 go_ret;exact⟨rfl,B1.trans (b2.mono B1.size)⟩
theorem StQ.asf {u:Value} {g:Nat} (h:StQ w la ps u g qs W):∃ua uc,u=.slice ua la.length uc/\kD W ua la:=by
 obtain⟨ao,c,e,hA,_⟩:=AZ h.acc;grind
def AR:Calls prog 39 #[.slice ao 0 c,.slice bo 0 c'] w fun e w'=>e=.returned (.bool true)/\w'=w:=by
 go_enter func39,ntmps39;exact anV
def Ja:Calls prog 72 #[.slice ao 0 c,.slice bo 0 c'] w fun e w'=>e=.returned (.bool true)/\w'=w:=by
 go_enter func72,ntmps72;exact anV
def yM:Calls prog 38 #[.slice ao 0 c,.slice bo 0 c'] w fun e w'=>e=.returned (.bool true)/\w'=w:=by
 have hh:=Ja (w:=w) (ao:=ao) (bo:=bo) (c:=c) (c':=c');go_enter func38,ntmps38;go_wp2_with (go_at_call 72;refine hh.mono ?_;rintro e w1 ⟨rfl,rfl⟩)
 go_loopg [5,6] 0 (fun gk u p wr=>u=.bool true/\p=J 0/\w1=wr)
 case atStart=>exact⟨rfl,rfl,rfl⟩
 case round=>obtain⟨rfl,rfl,rfl⟩:=hrel;exact mY
structure Dn (lab:Nat->Nat) (w0 w:ay) (x:Nat) (s:Sv):Prop where
 cr:Cr lab w x s
 kp:Kept s
 old:∀k,k<w0.heap.size->lab k=9
 dQ:Z w0 w
section
variable {lab lab':Nat->Nat} {w0 w V:ay} {x:Nat} {s:Sv}
theorem Dn.below (h:Dn lab w0 w x s) (b:Z w V):Dn lab w0 V x s:=⟨h.cr.below b,h.kp,h.old,h.dQ.trans (b.mono h.dQ.size)⟩
theorem Dn.top (h:Dn lab w0 w x s) {k:Nat} (hk:w.heap.size<=k):lab k=9:=h.cr.top k hk
def Mv.Ww (h:Mv lab lab' w V) {g:Nat} (h9:lab g=9) (hg:g<w.heap.size):V.heap[g]?=w.heap[g]?:=h.fF.block g hg (by unfold Own;omega)
def awL (lab:Nat->Nat) (w0 w:ay) (x:Nat) (r:Sv×FV) (e:Ending) (w':ay):Prop:=∃v,e=.returned v/\∃lab',Dn lab' w0 w' x r.1/\Mv lab lab' w w'/\VJ lab' w.heap.size w' v r.2
def Dn.deed (h:Dn lab w0 w x s) (c:Cd) (hn:c.nm.size<=maxLen) (hp:c.pa.size<=maxLen):Calls prog 12 #[.pointer (some ⟨x,0,none⟩),.agg (fM c)] w (awL lab w0 w x (yS s c)):=by
 refine(ase h.cr h.kp c hn hp).mono ?_;rintro e w' ⟨lab',v,rfl,hcr,hmv,asc⟩;refine⟨v,rfl,lab',⟨hcr,Rm h.kp c,fun k hk=>?_,?_⟩,hmv,asc⟩
 ·rw[hmv.old k (gL hk h.dQ.size)];exact h.old k hk
 ·exact h.dQ.trans ⟨hmv.fF.os,hmv.fF.tape,hmv.fF.output,hmv.fF.size,fun k hk=>hmv.Ww (h.old k hk) (gL hk h.dQ.size)⟩
end
structure uE (B:Nat) (s:Sv) (u:Value) (g:Nat) (qs:List Pj) (W:ay):Prop where
 acc:W.ownsRow B 58 5 u s.la.length (dP s.la)
 jobs:JW W g qs
 same:qs.map Pj.v=s.js
 lo:B<=g
 sets:∀q∈qs,xg (fun j=>g<j) W q
section
variable {lab:Nat->Nat} {w0 w W V:ay} {x:Nat} {s:Sv} {B g:Nat} {u:Value} {qs:List Pj}
theorem uE.kept (h:uE B s u g qs W) (hz:W.heap.size<=V.heap.size) (b:∀j,B<=j->j<W.heap.size->V.heap[j]?=W.heap[j]?):uE B s u g qs V:=by
 have hg:g<W.heap.size:=(aS.1 (show W.heap[g]?=_ from h.jobs)).1;have hl:=h.lo;exact⟨row_of h.acc (fun j hj=>b j (h.acc.lt j hj).1 (h.acc.lt j hj).2),(b g hl hg).trans (show W.heap[g]?=_ from h.jobs),h.same,hl,fun q hq=>(h.sets q hq).kept hz (fun j hj hgj=>b j ak hj)⟩
theorem uE.below (h:uE B s u g qs W) (b:Z W V):uE B s u g qs V:=h.kept b.size (fun j _ hj=>b.block j hj)
theorem uE.asf (h:uE B s u g qs W):∃ua uc,u=.slice ua s.la.length uc/\kD W ua s.la:=by
 obtain⟨ao,c,e,hA,_⟩:=AZ h.acc;grind
def uE.ajI (h:uE B s u g qs W):MG W (some ⟨g,0,none⟩) qs:=by
 refine⟨g,0,fun _=>rfl,fun k p hp=>⟨fun i v hv=>?_,(h.sets p (dW hp)).at_⟩⟩;rw[rJ];exact h.jobs.at hp i v hv
def Dn.state (h:Dn lab w0 w x s):Calls prog 11 #[.pointer (some ⟨x,0,none⟩)] w fun e w'=>∃ua uc,∃g:Nat,e=.returned (.agg (uL s.cf s.now (.slice ua s.la.length uc) (.slice (some ⟨g,0,none⟩) s.js.length s.js.length) s.hd))/\Z w w'/\∃qs,uE w.heap.size s (.slice ua s.la.length uc) g qs w':=by
 obtain⟨P,L,F,hX,hjs,_⟩:=h.cr;have hlen:P.ps.length=s.js.length:=by rw[← hjs,dL]
 have hw:=rX h.kp.ok.load;have hl1:=Wf.len hw;have hl0:=Wf.pos hw;rw[dL]at hl0 hl1;refine(adZ hX hw (by intro e;rw[e]at hl0;simp at hl0) ak (by rw[hlen];exact h.kp.ok.many)).mono ?_;rintro e w' ⟨u,g,rfl,qs,q⟩;obtain⟨ua,uc,rfl,_⟩:=q.asf;rw[hlen];exact⟨ua,uc,g,rfl,q.dQ,qs,q.acc,q.jobs,q.same.trans hjs,q.lo,q.sets⟩
end
def Tryz.awM:(prog.info? 23).map (·.size)=some 8:=aF
theorem Tryz.awN:(prog.info? 45).map (·.size)=some 8:=aF
def RZ {f:Func} {r t:Nat} {a:Act} {R:Ending->World->Prop} (hf:f.results= #[ResultVar.cell r t]) (ht:a.tmps[r]?=some (.pointer (some ⟨w.heap.size,0,none⟩))) (hd:a.defers= []) (hl:(loadVar t ⟨w.heap.size,0,none⟩).run prog (w.alloc (.cells cs t))=.ok (.agg cs) (w.alloc (.cells cs t))) (hR:R (.returned (.agg cs)) (w.alloc (.cells cs t))):bodyPost prog f R .ret a (w.alloc (.cells cs t)):=
 b_ (v:=.agg cs) (AA hf ht hl) hd hR
def ajJ (hs:cs.size=8):(loadVar 45 ⟨w.heap.size,0,none⟩).run prog (w.alloc (.cells cs 45))=.ok (.agg cs) (w.alloc (.cells cs 45)):=
 Fy _ _ 45 45 cs (0,0) _ (aK w _) underlying45 rfl (by grind[Tryz.awN])
def ael:Calls prog 25 #[] w fun e w'=>e=.returned (gY jN)/\Z w w':=by
 go_enter func25,ntmps25;go_wp2;refine RZ rfl rfl rfl (Fy _ _ 23 23 _ (0,0) _ (aK w _) underlying23 rfl Tryz.awM) ?_;exact⟨rfl,dY⟩
def Fe {n l:Int}:Calls prog 19 #[.string ⟨#[97]⟩,J n,J l] w fun e w'=>e=.returned (.agg (fM (exJ n l)))/\Z w w':=by
 go_enter func19,ntmps19;go_wp2;refine RZ rfl rfl rfl (ajJ rfl) ?_;exact⟨rfl,dY⟩
def GL {n:Int}:Calls prog 20 #[J n] w fun e w'=>e=.returned (.agg (fM (Sz n)))/\Z w w':=by
 go_enter func20,ntmps20;go_wp2;refine RZ rfl rfl rfl (ajJ rfl) ?_;exact⟨rfl,dY⟩
end
section
open Go.RowKit Wd Tr Cg Ld
def asg {B:Nat} {es:List Hg} (h:Ru lab B W v es) (h0:es≠ []):∃g o cap,v=.slice (some ⟨g,o,none⟩) es.length cap/\lab g=9/\g<W.heap.size/\es.length<=cap/\∀n e,es[n]?=some e->W.cell? ⟨g,o+n*6,none⟩=some (J e.kd)/\W.cell? ⟨g,o+n*6+1,none⟩=some (J e.jb):=by
 obtain⟨ao,cap,ps,rfl,rfl,hn,hc,ha,_⟩:=h
 cases ao with
 | none=>grind
 | some a=>
  obtain⟨g,o,k⟩:=a;obtain⟨h1,h2,h3,rfl,h4⟩:=ha g o k rfl;refine⟨g,o,cap,by grind,h1,h3,by grind,fun n e he=>?_⟩;rw[jI]at he
  cases hp:ps[n]? with
  | none=>grind
  | some p=>
   rw[hp]at he
   cases he;exact⟨h4 n p hp 0 _ rfl,h4 n p hp 1 _ rfl⟩
def FC {B:Nat} {a:FV} (h:VJ lab B W v a):∃ea ec ja jc ra rc,v=.agg (d9 a (.slice ea a.evs.length ec) (.slice ja a.job.set.length jc) (.slice ra a.WK.length rc))/\Ru lab B W (.slice ea a.evs.length ec) a.evs:=by
 obtain⟨ev,js,rk,sa,sc,rfl,hE,rfl,_,⟨ra,rc,rfl,_⟩⟩:=h;have hE':=hE;obtain⟨ea,ec,ps,rfl,e,_⟩:=hE;have hl:ps.length=a.evs.length:=by grind
 rw[hl]at hE' ⊢;grind
section
variable {lab:Nat->Nat} {w0 w:ay} {x:Nat}
abbrev DI (a0 a1:Int) (ev js rk:Value):Array Value:= #[J a0,J a1,ev,J 0,J 0,J 0,J 0,J 0,J 0,J 0,js,rk,J 0,O 0,O 0,J 0,J 0,J 0,J 0,J 0,J 0,J 0,J 0,J 0,J 0,J 0,J 0]
def aBu (h:Dn lab w0 w x (newS jN)):Calls prog 12 #[.pointer (some ⟨x,0,none⟩),.agg #[J 5,.string ⟨#[97]⟩,.string ⟨#[114,111,111,116]⟩,J 1,J 0,J 0,J 0,J 0]] w fun e w'=>∃ea ec ja jc ra rc,e=.returned (.agg (DI 0 1 (.slice ea 0 ec) (.slice ja 0 jc) (.slice ra 0 rc)))/\∃lab',Dn lab' w0 w' x ⟨jN,0,SA,[], -1⟩:=by
 have hd:=h.deed exA aT aT;rw[aA8]at hd;exact an8
def Zm {js IV:List Jv} {n l:Int} (h:Dn lab w0 w x ⟨jN,0,la,js, -1⟩) (e:(yS ⟨jN,0,la,js, -1⟩ (exJ n l)).1=⟨jN,0,la,IV, -1⟩):Calls prog 12 #[.pointer (some ⟨x,0,none⟩),.agg (fM (exJ n l))] w fun e w'=>∃v,e=.returned v/\∃lab',Dn lab' w0 w' x ⟨jN,0,la,IV, -1⟩:=by
 refine(h.deed (exJ n l) (show nmA.size<=maxLen by decide) (show nm0.size<=maxLen by decide)).mono ?_;rintro e' w' ⟨v,rfl,lab',D,_⟩;rw[e]at D;exact⟨v,rfl,lab',D⟩
def aBv (h:Dn lab w0 w x ⟨jN,0,SA,[I_ 3 5,I_ 3 5,I_ 1 5], -1⟩):Calls prog 12 #[.pointer (some ⟨x,0,none⟩),.agg (fM (exJ 1 6))] w fun e w'=>∃ea ec ja jc ra rc,e=.returned (.agg (DI 0 3 (.slice ea 1 ec) (.slice ja 0 jc) (.slice ra 0 rc)))/\∃lab',Dn lab' w0 w' x ⟨jN,0,SA,js5, -1⟩:=by
 have hd:=h.deed (exJ 1 6) aT aT;rw[aBb]at hd;exact an8
def aBw (h:Dn lab w0 w x ⟨jN,0,SA,js5, -1⟩):Calls prog 12 #[.pointer (some ⟨x,0,none⟩),.agg (fM (Sz 1))] w fun e w'=>∃g o cap ja jc ra rc,e=.returned (.agg (DI 0 0 (.slice (some ⟨g,o,none⟩) 5 cap) (.slice ja 0 jc) (.slice ra 0 rc)))/\(5<=cap/\w'.cell? ⟨g,o+12,none⟩=some (J 2)/\w'.cell? ⟨g,o+13,none⟩=some (J 0)/\w'.cell? ⟨g,o+19,none⟩=some (J 2)/\w'.cell? ⟨g,o+24,none⟩=some (J 4)/\w'.cell? ⟨g,o+25,none⟩=some (J 1))/\∃lab' la,la.length=2/\Dn lab' w0 w' x ⟨jN,1,la,IB,1⟩/\Mv lab lab' w w':=by
 have hd:=h.deed (Sz 1) aT aT;have⟨la,hl,e6⟩:=aBe h.kp;rw[e6]at hd;refine hd.mono ?_;rintro e w' ⟨v,rfl,lab',D,M,A⟩;obtain⟨ea,ec,ja,jc,ra,rc,rfl,hE⟩:=FC A;obtain⟨g,o,cap,he,_,_,hc,hA⟩:=asg hE (by simp[told]);rw[he];exact⟨g,o,cap,ja,jc,ra,rc,rfl,⟨hc,(hA 2 _ rfl).1,(hA 2 _ rfl).2,(hA 3 _ rfl).2,(hA 4 _ rfl).1,(hA 4 _ rfl).2⟩,lab',la,hl,D,M⟩
def aBx (h:Dn lab w0 w x ⟨jN,1,la,IB,1⟩) (hl:la.length=2):Calls prog 12 #[.pointer (some ⟨x,0,none⟩),.agg #[J 10,.string ⟨#[]⟩,.string ⟨#[]⟩,J 0,J 0,J 0,J 0,J 0]] w fun e w'=>∃a ea en ec ja jn jc ra rc,e=.returned (.agg (d9 a (.slice ea en ec) (.slice ja jn jc) (.slice ra 2 rc)))/\(a.hold=1/\a.IU=6)/\∃lab',Dn lab' w0 w' x ⟨jN,1,la,IB,1⟩:=by
 have hd:=h.deed exQ aT aT;have⟨a,e,h1,h2,h3⟩:=aBf h.kp hl;rw[e]at hd;refine hd.mono ?_;rintro e w' ⟨v,rfl,lab',D,_,A⟩;obtain⟨ea,ec,ja,jc,ra,rc,rfl,_⟩:=FC A;rw[show (_,a).2.WK.length=2 from h3];exact⟨a,ea,_,ec,ja,_,jc,ra,rc,rfl,⟨h1,h2⟩,lab',D⟩
def aBy (h:Dn lab w0 w x ⟨jN,1,la,IB,1⟩) (hl:la.length=2):Calls prog 12 #[.pointer (some ⟨x,0,none⟩),.agg (fM (Sz 5))] w fun e w'=>∃ea ec ja jc ra rc,e=.returned (.agg (DI 0 0 (.slice ea 14 ec) (.slice ja 0 jc) (.slice ra 0 rc)))/\∃lab' la',Dn lab' w0 w' x ⟨jN,6,la',js7, -1⟩/\Mv lab lab' w w':=by
 have hd:=h.deed (Sz 5) aT aT;have⟨la',es,h14,e⟩:=aBg h.kp hl;rw[e]at hd;refine hd.mono ?_;rintro e w' ⟨v,rfl,lab',D,M,A⟩;obtain⟨ea,ec,ja,jc,ra,rc,rfl,_⟩:=FC A;rw[show (_,told es).2.evs.length=14 from h14];exact⟨ea,ec,ja,jc,ra,rc,rfl,lab',la',D,M⟩
def aBA (h:Dn lab w0 w x ⟨jN,6,la,js7, -1⟩):Calls prog 11 #[.pointer (some ⟨x,0,none⟩)] w fun e w'=>∃ua un uc,∃g:Nat,e=.returned (.agg #[J 4,J 8,J 10,J 1,J 0,J 0,J 100,J 100,J 6,.slice ua un uc,.slice (some ⟨g,0,none⟩) 4 4,J (-1)])/\(w'.cell? ⟨g,13,none⟩=some (J 6)/\w'.cell? ⟨g,4,none⟩=some (J 4))/\Z w w':=by
 refine h.state.mono ?_;rintro e w' ⟨ua,uc,g,rfl,hb,qs,q⟩;have hs:qs.map Pj.v=js7:=q.same;have at_:∀(k:Nat) (j:Jv),js7[k]?=some j->∃p,qs[k]?=some p/\p.v=j:=fun k j hj=>by
  rw[← hs,jI]at hj
  cases hq:qs[k]? with
  | none=>rw[hq]at hj;cases hj
  | some p=>rw[hq]at hj;cases hj;exact⟨p,rfl,rfl⟩
 have⟨p0,hp0,e0⟩:=at_ 0 _ rfl;have⟨p1,hp1,e1⟩:=at_ 1 _ rfl;refine⟨_,_,_,g,rfl,⟨?_,?_⟩,hb⟩
 ·have:=q.jobs.at hp1 5 _ rfl;rw[e1]at this;exact this
 ·have:=q.jobs.at hp0 4 _ rfl;rw[e0]at this;exact this
end
end
section
open Go.RowKit Wd Tr Cg Ld
def aBB (c i:Int) (ev js rk:Value) (w:ay):(Instr.field 42 (.agg (DI c i ev js rk)) 0).run prog w=.ok (J c) w:=by
 simp[Instr.field,rM underlying42,asAgg,part,isAgg,rM underlying34]
def aem (WV:V8.Tab w) (hrt:Tab w) (hnt:N2.Tab w):Calls prog 9 #[] w fun e w'=>e=.returned (.bool true)/\Z w w':=by
 have hnew:Hid (∀w1,Z w w1->Calls prog 24 #[gY jN] w1 fun e w'=>∃x:Nat,e=.returned (.tuple #[.pointer (some ⟨x,0,none⟩),J 0])/\∃lab,Dn lab w w' x (newS jN)):=fun w1 b=>(Wo aa2 (WV.below b) (hrt.below b) (N2.sS b hnt)).mono fun e w' ⟨x,he,lab,hcr,hl,b'⟩=>⟨x,he,lab,hcr,Fa aa2,fun k hk=>hl k (gL hk b.size),b.trans (b'.mono b.size)⟩;clear WV hrt hnt;go_enter func9,ntmps9;go_upto_region 2 with(first
  | (go_at_call 25;refine ael.mono ?_;rintro e w1 ⟨rfl,b1⟩)
  | (go_at_call 24;refine(hnew.out w1 b1).mono ?_;rintro e w2 ⟨x,rfl,oh,D⟩))
 have H2:Hid _:=D;clear D b1 hnew;go_upto_region 4 with(go_at_call 12;refine(aBu H2.out).mono ?_;rintro e w3 ⟨ea,ec,ja,jc,ra,rc,rfl,xw,D3⟩;have hf:=aBB 0 1 (.slice ea 0 ec) (.slice ja 0 jc) (.slice ra 0 rc) w3)
 have H3:Hid _:=D3;clear D3 H2;go_upto_region 5 with(first
  | (go_at_call 19;refine Fe.mono ?_;rintro e w4 ⟨rfl,b4⟩)
  | (go_at_call 12;refine(Zm (H3.out.below b4) aA9).mono ?_;rintro e w5 ⟨v5,rfl,Za,D5⟩))
 clear hf;have H5:Hid _:=D5;clear D5 H3 b4;go_upto_region 6 with(first
  | (go_at_call 19;refine Fe.mono ?_;rintro e w6 ⟨rfl,b6⟩)
  | (go_at_call 12;refine(Zm (H5.out.below b6) aA_).mono ?_;rintro e w7 ⟨v7,rfl,aHN,D7⟩))
 have H7:Hid _:=D7;clear D7 H5 b6;go_upto_region 7 with(first
  | (go_at_call 19;refine Fe.mono ?_;rintro e w8 ⟨rfl,b8⟩)
  | (go_at_call 12;refine(Zm (H7.out.below b8) aBa).mono ?_;rintro e w9 ⟨v9,rfl,aHO,D9⟩))
 have H9:Hid _:=D9;clear D9 H7 b8;go_upto_region 8 with(first
  | (go_at_call 19;refine Fe.mono ?_;rintro e wa ⟨rfl,ba⟩)
  | (go_at_call 12;refine(aBv (H9.out.below ba)).mono ?_;rintro e wb ⟨eb,ecb,jb,jcb,rb,rcb,rfl,aHP,Db⟩)
  | (refine eF rfl 42 (.tmp 3) (.tmp 37) rfl wb.heap.size (DI 0 3 (.slice eb 1 ecb) (.slice jb 0 jcb) (.slice rb 0 rcb)) gM gM 42 _ (aK wb _) Tryz.lJ rfl Ci ?_;obtain⟨vb,hvb,bvb,gvb, -⟩:=qG wb (DI 0 0 (.slice none 0 0) (.slice none 0 0) (.slice none 0 0)) (DI 0 3 (.slice eb 1 ecb) (.slice jb 0 jcb) (.slice rb 0 rcb)) 42;rw[hvb]))
 have Hb:Hid _:=Db;clear Db H9 ba hvb;go_upto_region 9 with(first
  | (go_at_call 20;refine GL.mono ?_;rintro e wc ⟨rfl,bc⟩)
  | (go_at_call 12;have bbc:=bvb.trans (bc.mono bvb.size);refine(aBw (Hb.out.below bbc)).mono ?_;rintro e wd ⟨g,o,cap,jd,jcd,rd,rcd,rfl,⟨hc,e0,e1,e2,e3,e4⟩,aHQ,la,hla,Dd,Md⟩)
  | (refine eF rfl 42 (.tmp 4) (.tmp 40) rfl wd.heap.size (DI 0 0 (.slice (some ⟨g,o,none⟩) 5 cap) (.slice jd 0 jcd) (.slice rd 0 rcd)) gM gM 42 _ (aK wd _) Tryz.lJ rfl Ci ?_;obtain⟨vd,hvd,bvd,gvd, -⟩:=qG wd (DI 0 0 (.slice none 0 0) (.slice none 0 0) (.slice none 0 0)) (DI 0 0 (.slice (some ⟨g,o,none⟩) 5 cap) (.slice jd 0 jcd) (.slice rd 0 rcd)) 42;rw[hvd]))
 have gd:=(Md.Ww (Hb.out.top (aC _)) (gL (aS.1 gvb).1 bc.size)).trans (bP gvb bc);have Hd:Hid _:=Dd.below bvd;have HL:Hid _:=hla;have d1:vd.cell? ⟨wb.heap.size,1,none⟩=some (J 3):=aj (bP gd bvd) rfl;have t2:vd.cell? ⟨wd.heap.size,2,none⟩=some (.slice (some ⟨g,o,none⟩) 5 cap):=aj gvd rfl;have f0:=aR bvd e0;have f1:=aR bvd e1;have f2:=aR bvd e2;have f3:=aR bvd e3;have f4:=aR bvd e4;clear Hb gvb bvb bc bbc e0 e1 e2 e3 e4 Dd Md gd gvd bvd hvd hla;go_upto_region 11 with fail
 clear d1 t2 f0 f1 f2 f3 f4;go_upto_region 12 with(first
  | (go_at_call 12;refine(aBx Hd.out HL.out).mono ?_;rintro e we ⟨a,ee,ne,ce,je,nje,cje,re,cre,rfl,⟨ah,aw⟩,aHR,De⟩)
  | (refine eF rfl 42 (.tmp 5) (.tmp 92) rfl we.heap.size (d9 a (.slice ee ne ce) (.slice je nje cje) (.slice re 2 cre)) gM gM 42 _ (aK we _) Tryz.lJ rfl (by simp[d9,Value.oneCell']) ?_;obtain⟨ve,hve,bve,gve, -⟩:=qG we (DI 0 0 (.slice none 0 0) (.slice none 0 0) (.slice none 0 0)) (d9 a (.slice ee ne ce) (.slice je nje cje) (.slice re 2 cre)) 42;rw[hve]))
 have He:Hid _:=De;clear De Hd hve;go_upto_region 13 with(first
  | (go_at_call 20;refine GL.mono ?_;rintro e wc ⟨rfl,bc⟩)
  | (go_at_call 12;have bbc:=bve.trans (bc.mono bve.size);refine(aBy (He.out.below bbc) HL.out).mono ?_;rintro e wf ⟨ef,cef,jf,cjf,rf,crf,rfl,aHS,lf,Df,Mf⟩)
  | (refine eF rfl 42 (.tmp 6) (.tmp 95) rfl wf.heap.size (DI 0 0 (.slice ef 14 cef) (.slice jf 0 cjf) (.slice rf 0 crf)) gM gM 42 _ (aK wf _) Tryz.lJ rfl Ci ?_;obtain⟨vf,hvf,bvf,gvf, -⟩:=qG wf (DI 0 0 (.slice none 0 0) (.slice none 0 0) (.slice none 0 0)) (DI 0 0 (.slice ef 14 cef) (.slice jf 0 cjf) (.slice rf 0 crf)) 42;rw[hvf]))
 have ge:=bP ((Mf.Ww (He.out.top (aC _)) (gL (aS.1 gve).1 bc.size)).trans (bP gve bc)) bvf;have Hf:Hid _:=Df.below bvf;have hst:=aBA Hf.out;clear He gve bve bc bbc Df Mf bvf hvf HL;go_upto_region 14 with(first
  | (go_at_call 11;refine hst.mono ?_;rintro e wg ⟨ug,un,uc,gg,rfl,⟨j1,j0⟩,bg⟩)
  | (refine eF rfl 32 (.tmp 7) (.tmp 97) rfl wg.heap.size #[J 4,J 8,J 10,J 1,J 0,J 0,J 100,J 100,J 6,.slice ug un uc,.slice (some ⟨gg,0,none⟩) 4 4,J (-1)] gM gM 32 _ (aK wg _) Tryz.RH rfl Ci ?_;obtain⟨vg,hvg,bvg,gvg, -⟩:=qG wg #[J 0,J 0,J 0,J 0,J 0,J 0,J 0,J 0,J 0,.slice none 0 0,.slice none 0 0,J 0] #[J 4,J 8,J 10,J 1,J 0,J 0,J 100,J 100,J 6,.slice ug un uc,.slice (some ⟨gg,0,none⟩) 4 4,J (-1)] 32;rw[hvg]))
 have bb:=bg.trans (bvg.mono bg.size);have ge':=bP ge bb;have gf':=bP gvf bb;have HB:Hid _:=Hf.out.dQ.trans (bb.mono Hf.out.dQ.size);have q16:vg.cell? ⟨we.heap.size,16,none⟩=some (J a.hold):=aj ge' rfl;have q17:vg.cell? ⟨we.heap.size,17,none⟩=some (J a.IU):=aj ge' rfl;have q11:vg.cell? ⟨we.heap.size,11,none⟩=some (.slice re 2 cre):=aj ge' rfl;have u2:vg.cell? ⟨wf.heap.size,2,none⟩=some (.slice ef 14 cef):=aj gf' rfl;have s8:vg.cell? ⟨wg.heap.size,8,none⟩=some (J 6):=aj gvg rfl;have s10:vg.cell? ⟨wg.heap.size,10,none⟩=some (.slice (some ⟨gg,0,none⟩) 4 4):=aj gvg rfl;have k1:=aR bvg j1;have k0:=aR bvg j0;rw[ah]at q16;rw[aw]at q17;clear ah aw hst hvg ge gvf bg bvg gvg bb ge' gf' j0 j1 Hf;go_wp2;go_ret;exact⟨rfl,HB.out⟩
abbrev cfC (c:Cf):Array Value:= #[J c.nodes,J c.queue,J c.limit,J c.age,J c.fair,J c.size,J c.period,J c.half]
structure Pp (w:ay) (b:Nat) (c:Cf):Prop where
 blk:w.heap[b]?=some (.cells (cfC c) 23 (0,0))
theorem Pp.cells {b:Nat} {c:Cf} (h:Pp w b c):w.cell? ⟨b,0,none⟩=some (J c.nodes)/\w.cell? ⟨b,1,none⟩=some (J c.queue)/\w.cell? ⟨b,2,none⟩=some (J c.limit)/\w.cell? ⟨b,3,none⟩=some (J c.age)/\w.cell? ⟨b,4,none⟩=some (J c.fair)/\w.cell? ⟨b,5,none⟩=some (J c.size)/\w.cell? ⟨b,6,none⟩=some (J c.period)/\w.cell? ⟨b,7,none⟩=some (J c.half):=
 ⟨aj h.blk rfl,aj h.blk rfl,aj h.blk rfl,aj h.blk rfl,aj h.blk rfl,aj h.blk rfl,aj h.blk rfl,aj h.blk rfl⟩
theorem Pp.below {w V:ay} {b:Nat} {c:Cf} (h:Pp w b c) (k:Z w V):Pp V b c:=⟨(k.block b (aS.1 h.blk).1).trans h.blk⟩
structure MH (w:ay) (c:Cf) (W:ay):Prop where
 eq:w.alloc (.cells (cfC c) 23)=W
 dQ:Z w W
 box:Pp W w.heap.size c
 shown:Calls prog 9 #[] W fun e w'=>e=.returned (.bool true)/\Z W w'
 bad:gq c≠0->∀V,Calls prog 10 #[.agg (cfC c)] V fun e w'=>e=.returned (.tuple #[.pointer none,.bool true])/\Z V w'
 good:gq c=0->∀V,Z W V->Calls prog 10 #[.agg (cfC c)] V fun e w'=>∃x:Nat,e=.returned (.tuple #[.pointer (some ⟨x,0,none⟩),.bool true])/\∃lab,Dn lab W w' x (newS c)
def begins (c:Cf) (hT:V8.Tab w/\_root_.Go.Proofs.YtdhifkbbjlhcaaaGreatDoor.Tab w/\N2.Tab w):∃W,MH w c W:=by
 have b:Z w (w.alloc (.cells (cfC c) 23)):=by grind[aI,Below.alloc]
 refine⟨_,rfl,b,⟨aK w _⟩,aem (hT.1.below b) (hT.2.1.below b) (N2.sS b hT.2.2),fun h V=>aek h,fun h V k=>?_⟩;have k':=b.trans (k.mono b.size);refine(Zl h (hT.1.below k') (hT.2.1.below k') (N2.sS k' hT.2.2)).mono ?_;rintro e w' ⟨x,rfl,lab,hcr,hl,b'⟩;exact⟨x,rfl,lab,hcr,Fa h,fun j hj=>hl j (gL hj k.size),k.trans (b'.mono k.size)⟩
end
end Go.Proofs.YtdhifkbbjlhcaaaGreatDoor
