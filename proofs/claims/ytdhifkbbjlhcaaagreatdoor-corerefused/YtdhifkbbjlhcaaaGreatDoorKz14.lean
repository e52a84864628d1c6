import Derived.Test.YtdhifkbbjlhcaaaGreatDoorKz10
import Derived.Test.YtdhifkbbjlhcaaaGreatDoorKz11
import Derived.Test.YtdhifkbbjlhcaaaGreatDoorKz8
import Derived.Test.YtdhifkbbjlhcaaaGreatDoorKz13
import Derived.Laws.ByValue
import Derived.Laws.EntriesVeiled
import Derived.Test.YtdhifkbbjlhcaaaGreatDoorKz1
set_option maxRecDepth 20000
set_option maxHeartbeats 2000000
set_option linter.defProp false
namespace Go.Proofs.YtdhifkbbjlhcaaaGreatDoor
open Go.Proofs.Tryz
variable {B c g j k m o:Nat} {Inv:(Nat->Prop)->World->Prop} {K:Nat->Prop} {W WF w:ay} {ao:Option Addr} {l:List Tr.Ac} {v:Nat->Value}
section
open Go.RowKit Wd Tr
def ak9 (a b:Int):Cz a b=a / b:=by
 grind[Cz]
def Ow {a n d:Int} (ha:Word a) (hn:Word n) (hd:Word d) (hq:a*n / d<18446744073709551616) (w:ay):
  Calls prog 210 #[O a,O n,O d] w fun e w'=>e=.returned (O (a*n / d))/\Z w w':=by
 have c1:=Ue a n ha hn;have c2:=Qv (a*n) d (oH ha hn) hd;have hq0:=uG (oH ha hn).1 hd.1;have e:cu (Cz (a*n) d)=a*n / d:=by rw[ak9];exact(zu ⟨hq0,hq⟩).2
 rw[e]at c2;clear e hq hq0;generalize a*n / d=q at *;generalize bY (Cz (a*n) d)=H at *;generalize P6 (a*n) d=R at *;generalize S9 d=B at *;generalize a*n=u at *;clear ha hn hd;go_enter func210,ntmps210;go_wp2_with fail
 refine(c1 _).mono ?_;rintro e w1 ⟨rfl,hb1⟩;go_wp2_with fail
 refine(c2 _).mono ?_;rintro e w2 ⟨rfl,hb2⟩;go_wp2;go_ret;exact⟨rfl,(hb1.trans (hb2.mono hb1.size)).alloc (by have:=hb1.size;have:=hb2.size;omega) _⟩
def ak_ {n d:Int} (hn:0<=n) (hn':n<=281474976710656) (w:ay):
  Calls prog 167 #[O n,O d] w fun e w'=>e=.returned (.agg #[O (atN n d),O (atD n d)])/\Z w w':=by
 have e1:IntKind.u64.wrap (n*4096)=n*4096:=by rw[d_];omega
 by_cases h:n*4096<d
 ·rw[show atN n d=1 by unfold atN;rw[aJ h],show atD n d=4096 by unfold atD;rw[aJ h]]
  clear hn hn';go_enter func167,ntmps167;go_wp2;exact b_ (v:=.agg #[O 1,O 4096]) (by simp[results,results167,go_sem]) rfl ⟨rfl,dY⟩
 ·rw[show atN n d=n by unfold atN;rw[au h],show atD n d=d by unfold atD;rw[au h]]
  clear hn hn';go_enter func167,ntmps167;go_wp2;exact b_ (v:=.agg #[O n,O d]) (by simp[results,results167,go_sem]) rfl ⟨rfl,dY⟩
def z_ {g o n L c m:Nat} {a:Ac} (hA:vN W g (o+n*5) a) (hn:n<L) (h1:0<=a.sh) (h2:a.sh<=4096):
  Calls prog 206 #[.agg #[.slice (some ⟨g,o,none⟩) L c,.map (some m)],J n] W fun e w'=>e=.returned (O a.sh)/\Z W w':=by
 have e1:IntKind.u64.wrap a.sh=a.sh:=by rw[d_];omega
 have hn':(n:Int)<L:=ak;have x1:=hA.sh;have hb:Z W (W.alloc (.cells #[.slice (some ⟨g,o,none⟩) L c,.map (some m)] 268)):=dY;have x2:(W.alloc (.cells #[.slice (some ⟨g,o,none⟩) L c,.map (some m)] 268)).cell? ⟨g,o+n*5+2,none⟩=some (J a.sh):=fU _ x1;clear hA x1 h1 h2;generalize a.sh=sh at *;go_enter func206,ntmps206;exact FK
def agm {W w w0:ay} {a0 a1 a2 a3:Addr} {v0 v1 v2 v3:Value} (hb:Z W w) (h:W.cell? a0=some v0/\W.cell? a1=some v1/\W.cell? a2=some v2/\W.cell? a3=some v3/\Z w0 W/\w0.heap.size<=W.heap.size):w.cell? a0=some v0/\w.cell? a1=some v1/\w.cell? a2=some v2/\w.cell? a3=some v3/\Z w0 w/\w0.heap.size<=w.heap.size:=by
 grind[aQ,kR,jm,gN]
def IY (w:ay) (k g:Nat) (n d BH BL:Int) (x:ay):Prop:=x.cell? ⟨k,0,none⟩=some (O n)/\x.cell? ⟨k,1,none⟩=some (O d)/\x.cell? ⟨g,0,none⟩=some (O BH)/\x.cell? ⟨g,1,none⟩=some (O BL)/\Z w x/\w.heap.size<=x.heap.size
def IY.keep {w x y:ay} {n d BH BL:Int} (h:IY w k g n d BH BL x) (b:Z x y):IY w k g n d BH BL y:=agm b h
def IY.far {w x u:ay} {n d BH BL:Int} {a b:Value} (h:IY w k g n d BH BL x) (hu:IY w k g n d BH BL u):IY w k g n d BH BL ((x.setCell ⟨u.heap.size,0,none⟩ a).setCell ⟨u.heap.size,1,none⟩ b):=by
 have n1:=aU u _ hu.1;have n2:=aU u _ hu.2.2.1;simp only at n1 n2;have y1:k≠u.heap.size:=ak;have y2:g≠u.heap.size:=ak;have z:=hu.2.2.2.2.2;obtain⟨a0,a1,a2,a3,bb,zz⟩:=h;exact⟨by simp[go_sem, *],by simp[go_sem, *],by simp[go_sem, *],by simp[go_sem, *],(bb.setCell z _).setCell z _,by simp_all⟩
def agp {e n d:Int} (he:0<=e) (he':e<=9223372036854775808) (hn:1<=n) (hn':n<18446744073709551616) (hd:1<=d) (hd':d<18446744073709551616) (w:ay):
  Calls prog 166 #[O e,.agg #[O n,O d]] w fun r w'=>r=.returned (O (jF (cl (cl (e*d) 2147483648) n)))/\Z w w':=by
 have⟨p0,p1⟩:=Tr.prod_bound he he' hd hd';have we:Word e:=⟨he,by omega⟩;have wd:Word d:=⟨by omega,hd'⟩;have wn:Word n:=⟨by omega,hn'⟩;have nz:n≠0:=ak;have c1:=Ue e d we wd;have c2:=FX 2147483647 ⟨by omega,by omega⟩;have nu1:Num (e*d):=⟨p0,by unfold top;omega⟩;have c3:=Eh (e*d) 2147483647 nu1 ⟨by omega,by unfold top;omega⟩;have e3:Wd.dJ (e*d) 2147483647=e*d+2147483647:=by unfold Wd.dJ top;rw[aJ ak]
 rw[e3]at c3;have nu2:Num (e*d+2147483647):=⟨by omega,by unfold top;omega⟩;have c4:=ZR (bY (e*d+2147483647)) (cu (e*d+2147483647)) 31 (lS nu2) (jP _) ak;have e4:uI (val (bY (e*d+2147483647)) (cu (e*d+2147483647))) 31=cl (e*d) 2147483648:=by rw[iO];unfold uI cl;rw[au ak];rfl
 rw[e4]at c4;have q0:0<=cl (e*d) 2147483648:=A_ p0 ak;have q1:cl (e*d) 2147483648<=e*d:=aoU p0 ak;have r0:0<=cl (cl (e*d) 2147483648) n:=A_ q0 ak;have r1:cl (cl (e*d) 2147483648) n<=cl (e*d) 2147483648:=aoU q0 ak;have nu3:Num (cl (cl (e*d) 2147483648) n):=⟨r0,by unfold top;omega⟩;have e5:=apT (x:=cl (e*d) 2147483648) (b:=n) ak;have nuq:Num (cl (e*d) 2147483648):=⟨q0,by unfold top;omega⟩;have c5:=Jo (cl (e*d) 2147483648) n nuq wn nz;obtain⟨_,_,_,nq,m0,m1,_,_⟩:=sK nuq wn nz;have wb3:=lS nu2;clear we wd p0 p1 nu1 q1 r0 r1 q0 e3 e4 nu2 he he' hn' hd hd' wn nz wb3;generalize hX:cl (e*d) 2147483648=X at *;clear hX;have⟨A,hA⟩:=aZ (jF (cl X n));rw[hA];have HA:Hid (jF (cl X n)=A):=hA;have H5:Hid _:=e5;clear hA e5;generalize bY (e*d+2147483647)=BH at *;generalize cu (e*d+2147483647)=BL at *;generalize e*d=ed at *;have hS0:(w.alloc (.cells #[O n,O d] 224)).cell? ⟨w.heap.size,0,none⟩=some (O n)/\(w.alloc (.cells #[O n,O d] 224)).cell? ⟨w.heap.size,1,none⟩=some (O d):=⟨by simp,by simp⟩;have b0:Z w (w.alloc (.cells #[O n,O d] 224)):=dY;have z0:w.heap.size<(w.alloc (.cells #[O n,O d] 224)).heap.size:=dF;go_enter func166,ntmps166;go_wp2_with fail
 refine(c1 _).mono ?_;rintro e w1 ⟨rfl,hb1⟩;go_wp2_with fail
 refine(c2 _).mono ?_;rintro e w2 ⟨rfl,hb2⟩;go_wp2_with fail
 refine(c3 _).mono ?_;rintro e w3 ⟨rfl,hb3⟩;have B3:=((b0.trans (hb1.mono ak)).trans (hb2.mono (by have:=hb1.size;omega))).trans (hb3.mono (by have:=hb1.size;have:=hb2.size;omega));have Z3:w.heap.size<w3.heap.size:=by have:=hb1.size;have:=hb2.size;have:=hb3.size;omega
 have k0:=aQ hb3 (aQ hb2 (aQ hb1 hS0.1));have k1:=aQ hb3 (aQ hb2 (aQ hb1 hS0.2));clear hS0 b0 z0 hb1 hb2 hb3 c1 c2 c3;have hV:IY w w.heap.size w3.heap.size n d BH BL (w3.alloc (.cells #[O BH,O BL] 179)):=
  ⟨fU _ k0,fU _ k1,by simp[go_sem],by simp[go_sem],B3.alloc ak _,by simp;omega⟩
 go_upto_region 2 with fail
 generalize w3.alloc (.cells #[O BH,O BL] 179)=v4 at *;generalize w3.heap.size=k6 at *;have HV:Hid (IY w w.heap.size k6 n d BH BL v4):=hV;have HS:Hid (IY w w.heap.size k6 n d BH BL v4.drew):=hV.keep (aI _ _).drew;clear hV k0 k1 B3 Z3;go_cut [7,8,9] (fun b r dd wq=>∃g:Nat,b=.pointer (some ⟨g,0,none⟩)/\r=O (X % n)/\wq.cell? ⟨g,0,none⟩=some (O (bY (X / n)))/\wq.cell? ⟨g,1,none⟩=some (O (cu (X / n)))/\wq.frozen? ⟨g,0,none⟩=false/\wq.frozen? ⟨g,1,none⟩=false/\w.heap.size<=g/\Z w wq/\dd=.bool true)
 case first=>
  go_region_held3 (fun x=>x.cell? ⟨w.heap.size,0,none⟩=some (O n)/\x.cell? ⟨w.heap.size,1,none⟩=some (O d)/\x.cell? ⟨k6,0,none⟩=some (O BH)/\x.cell? ⟨k6,1,none⟩=some (O BL)/\Z w x/\w.heap.size<=x.heap.size) (first | exact HS.out | exact HY.out | exact HX.out | exact IY.far HY.out HX.out | exact IY.far HY.out HV.out | exact IY.far HY.out HS.out | exact IY.keep HY.out dY | exact IY.keep lV lV | exact IY.keep lV dY | exact IY.keep HS.out dY | exact IY.far lV lV | exact IY.far lV HS.out | exact IY.keep HX.out dY)
   (first
   | (go_at_call 213;refine(c4 _).mono ?_;rintro e x ⟨rfl,hx⟩;have HX:Hid (IY w w.heap.size k6 n d BH BL x):=IY.keep (by first | exact HS.out | assumption) hx;have⟨hc1,hf1⟩:=zG hx)
   | (go_at_call 212;refine(c5 _).mono ?_;rintro e x ⟨rfl,hx⟩;have HY:Hid (IY w w.heap.size k6 n d BH BL x):=IY.keep (by first | exact HX.out | assumption) hx;have⟨hc3,hf3⟩:=zG hx;(first | (have g3:=xU hc1 hc3;have j3:=uT hc1 hf1 hf3) | skip)))
  all_goals
   rename_i h6x
   have h6:IY w w.heap.size k6 n d BH BL _:=h6x
   have B6:=h6.2.2.2.2.1
   have z1:=HV.out.2.2.2.2.2
   have z2:=HX.out.2.2.2.2.2
   have z3:=HY.out.2.2.2.2.2
   clear h6x h6 HS HX HY HV
   go_wp2
   go_meet
   exact⟨_,rfl,rfl,by simp[go_sem, *],by simp[go_sem, *],by simp[go_sem, *],by simp[go_sem, *],by assumption,B6,rfl⟩
 case rest=>
  obtain⟨g,rfl,rfl,q0,q1,f0,f1,hg,HB,rfl⟩:=hcut;clear HS HV c4 c5;have hA:=HA.out;rw[H5.out]at nu3 hA;clear HA H5;by_cases m:X % n=0
  ·rw[aJ m]at nu3 hA;rw[m];clear m m0 m1 nq;generalize X / n=V at *;by_cases hh:bY V=0
   ·exact aoj
   ·rw[(Xl nu3 hh).1]at hA;have hp:0<bY V:=(by have:=(lS nu3).1;omega);exact afc
  ·rw[au m]at nu3 hA;have HA:Hid _:=hA;clear hA;have hp0:0<X % n:=ak;have ea:Wd.dJ (X / n) 1=X / n+1:=(by have:=nu3.2;unfold Wd.dJ;rw[aJ this]);clear m m0 m1 hn;generalize X % n=R at *;generalize X / n=V at *;go_upto_region 4 with fail
   go_cut [7] (fun b wq=>b=.pointer (some ⟨g,0,none⟩)/\wq.cell? ⟨g,0,none⟩=some (O (bY (V+1)))/\wq.cell? ⟨g,1,none⟩=some (O (cu (V+1)))/\Z w wq)
   case first=>
    go_region_with (first
     | (go_at_call 172;refine(FX 1 ⟨by omega,by omega⟩ _).mono ?_;rintro e x ⟨rfl,hx⟩;have x0:=aQ hx q0;have x1:=aQ hx q1;have y0:=jQ hx q0 f0;have y1:=jQ hx q1 f1)
     | (go_at_call 175;refine(Eh V 1 nq ⟨by omega,by unfold top;omega⟩ _).mono ?_;rw[ea];rintro e y ⟨rfl,hy⟩;have u0:=aQ hy x0;have u1:=aQ hy x1;have v0:=jQ hy x0 y0;have v1:=jQ hy x1 y1))
    all_goals
     have HY:Hid _:=(HB.drew.trans (hx.mono (by have:=HB.size;simp;omega))).trans (hy.mono (by have:=HB.size;have:=hx.size;simp at this;omega))
     go_wp2
     go_meet
     exact⟨rfl,by simp[go_sem, *],by simp[go_sem, *],(HY.out.setCell hg _).setCell hg _⟩
   case rest=>
    obtain⟨rfl,q0,q1,HB⟩:=hcut;clear ea nq hp0;generalize V+1=V' at *;have hA:=HA.out;clear HA;by_cases hh:bY V'=0
    ·exact aoj
    ·rw[(Xl nu3 hh).1]at hA;have hp:0<bY V':=(by have:=(lS nu3).1;omega);exact afc
end
section
open Go.RowKit Wd Tr Go.Maps
def yF (v:Value):Option (DataW Value×List MemPlace):=some (.held v,[])
def ap5:Value:=.agg #[.slice none 0 0,O 0]
def Tryz.abM:Keyed prog 3:=int_keyed underlying3
def Tryz.at6 (w:ay):(zeroValue 273).run prog w=.ok ap5 w:=aF
structure vR (W:ay) (B m:Nat) (l:List Ac) (k:Nat) (v:Nat->Value):Prop where
 map:∃D,W.ownsMap prog 3 yF m k D/\∀p,p<l.length->D.atKey (.int .i64 p) (.held ap5)=.held (.agg #[v p,O (oM l p k)])
 row:∀p,p<l.length->W.ownsRow B 3 1 (v p) (om l p k).length (ints (om l p k))
 apart:∀p q,p<l.length->q<l.length->p≠q->(v p).ownBlock=none\/(v p).ownBlock≠(v q).ownBlock
 lo:B<=m
def at7 (p:Nat) (h:p<9223372036854775808):keyOf prog 3 (.int .i64 (p:Int))=some (.int .i64 (p:Int)):=keyOf_int_mk underlying3 (vB ak)
def vR.look (h:vR W B m l k v) (hl:l.length<=64) {p:Nat} (hp:p<l.length):
  (Instr.lookup 266 (.map (some m)) (.int .i64 (p:Int)) false).run prog W=.ok (.agg #[v p,O (oM l p k)]) W:=by
 have⟨D,h1,h2⟩:=h.map;have⟨x,ps,hr,hx⟩:=h1.lookup Tryz.abM underlying266 (Tryz.at6 W) (zd:=.held ap5) (zp:= []) rfl (at7 p ak);grind[yF]
def vR.made (h:Wu l) (hB:B<=W.heap.size):vR (W.alloc (.map #[] 0)) B W.heap.size l 1 (fun _=>.slice none 0 0):=by
 obtain⟨a,ha,hpa,_⟩:=h.root;have hk:∀p:Nat,om l p 1= []:=by grind[om]
 have ht:∀p:Nat,oM l p 1=0:=by grind[oM]
 refine⟨⟨.map [],(JL W prog 3 yF).mono ak,fun p _=>?_⟩,fun p _=>?_,fun _ _ _ _ _=>.inl rfl,hB⟩
 ·rw[ht];rfl
 grind[l8,ints]
section
variable {W W':ay} {B m k:Nat} {l:List Ac} {v:Nat->Value}
def vR.Ul (h:vR W B m l k v):m<W.heap.size:=by
 obtain⟨D,h1,_⟩:=h.map;exact h1.lt
def vR.Qy (h:vR W B m l k v) {p:Nat} (hp:p<l.length):∀j,(v p).ownBlock=some j->j<W.heap.size/\B<=j/\j≠m:=fun j hj=>by
 obtain⟨D,⟨es,clock,hb,_⟩,_⟩:=h.map;rcases (h.row p hp).2 with⟨e,_⟩ | ⟨g,cap,cur,e,hg,hh,_⟩
 ·rw[e]at hj;cases hj
 grind[Value.ownBlock]
theorem vR.same (h:vR W B m l k v) (hm:W'.heap[m]?=W.heap[m]?) (hv:∀p,p<l.length->∀j,(v p).ownBlock=some j->W'.heap[j]?=W.heap[j]?):vR W' B m l k v:=by
 obtain⟨⟨D,⟨es,clock,hb,h1⟩,h2⟩,hr,ha,hl⟩:=h;exact⟨⟨D,⟨es,clock,hm.trans hb,h1⟩,h2⟩,fun p hp=>zM (hr p hp) (hv p hp),ha,hl⟩
theorem vR.below (h:vR W B m l k v) (b:Z W W'):vR W' B m l k v:=
 h.same (b.block m h.Ul) (fun _ hp j hj=>b.block j (h.Qy hp j hj).1)
theorem vR.fF (h:vR W B m l k v) (c:aH K W W') (hK:∀j,K j->j<B\/W.heap.size<=j):vR W' B m l k v:=
 h.same (c.block m h.Ul (fun x=>by rcases hK m x with y | y;have:=h.lo;omega;have:=h.Ul;omega))
  (fun _ hp j hj=>c.block j (h.Qy hp j hj).1 (fun x=>by have:=h.Qy hp j hj;grind))
def vR.base {B':Nat} (h:vR W B m l k v) (hB:B'<=B):vR W B' m l k v:=⟨h.map,fun p hp=>iL (h.row p hp) hB,h.apart,bM hB h.lo⟩
def vR.step {W1 W2 W3:ay} {a:Ac} {p b8:Nat} {v':Value} (h:vR W B m l k v) (hl:l.length<=64) (hk:k<l.length) (ha:l[k]?=some a) (hpa:a.pa=p) (hp:p<l.length)
  (b0:Z W W1) (hrow:W2.ownsRow B 3 1 v' ((om l p k).length+1) (ints (om l p k)++ [.int .i64 (k:Int)])) (hg:W1.grownBy W2 (v p).ownBlock) (hat:v'.ownBlock=(v p).ownBlock\/v'.ownBlock=some W1.heap.size)
  (b2:aH (fun j=>j=b8) W2 W3) (h8:W.heap.size<=b8) (h8':b8<W1.heap.size):
  ∃W4,(Instr.mapUpdate 266 (.map (some m)) (.int .i64 (p:Int)) (.agg #[v',O (oM l p k+a.sh)])).run prog W3=.ok () W4/\
   vR W4 B m l (k+1) (fun q=>if q=p then v' else v q)/\W3.grownBy W4 (some m):=by
 have h1:=h.below b0;have hm2:=hg.block m h1.Ul (fun e=>(h1.Qy hp m (e.symm▸rfl)).2.2 rfl);have h1m:=h1.Ul;have s12:=hg.size;have hm0:=h.Ul;have hm3:=b2.block m ak ak;have⟨D,hD,aE4⟩:=h1.map;have hD3:W3.ownsMap prog 3 yF m k D:=by grind[World.ownsMap]
 have⟨W4,hrun,hD4,hg4⟩:=hD3.update Tryz.abM underlying266 (show k<maxLen by unfold maxLen;omega) (at7 p ak) (val:=.agg #[v',O (oM l p k+a.sh)]) (d:=.held (.agg #[v',O (oM l p k+a.sh)])) (ps:= []) rfl
 have ala:=hD.isMap;refine⟨W4,hrun,⟨⟨_,hD4,fun q hq=>?_⟩,fun q hq=>?_,fun q r hq hr hne=>?_,h.lo⟩,hg4⟩
 ·by_cases e:q=p
  ·subst e;simp only[DT];rw[Cn ala (by exact trivial),TV ha hpa]
  grind[atKey_put_other,akO]
 ·have hk4:∀j,j<W3.heap.size->j≠m->W4.heap[j]?=W3.heap[j]?:=by grind[World.grownBy.block]
  by_cases e:q=p
  ·subst e;simp only[DT];rw[afO ha hpa];have hr2:W2.ownsRow B 3 1 v' (om l q k++ [k]).length (ints (om l q k++ [k])):=(by grind[ints]);refine zM hr2 (fun j hj=>?_);have hj8:j≠b8:=fun e=>by
    rcases hat with x | x
    ·have:=(h.Qy hp j (x.symm.trans hj)).1;omega
    grind
   have hj2:∃cs,W2.heap[j]?=some (.cells cs 3 (0,0)):=by
    rcases hr2.2 with⟨e,_⟩ | ⟨g,cap,cur,e,_,hh,_⟩
    ·grind
    grind[Value.ownBlock]
   obtain⟨cs,hcs⟩:=hj2;have hjl:=(aS.1 hcs).1;refine(hk4 j (by have:=b2.size;omega) (fun e=>?_)).trans (b2.block j hjl hj8);rw[e,hm2]at hcs;obtain⟨es,clock,hb,_⟩:=hD;grind
  ·simp only[e,if_false];rw[akN ha ak];refine zM (h1.row q hq) (fun j hj=>?_);have hv:=h1.Qy hq j hj;have hv0:=(h.Qy hq j hj).1;grind[aH.block,World.grownBy.block,apart]
 ·have key:∀q r,q<l.length->r<l.length->q≠r->q=p->(v'.ownBlock=none\/v'.ownBlock≠(v r).ownBlock):=fun q r hq hr hne e=>by
   subst e;rcases hat with x | x
   ·grind[apart]
   ·rw[x];refine .inr (fun y=>?_);have:=(h1.Qy hr _ y.symm).1;omega
  grind[apart]
end
end
section
open Go.RowKit Wd Tr Go.Maps
def ayN (w:ay) (ao:Option Addr) (l:List Ac) (c:Nat) (e:Ending) (w':ay):Prop:=
 (dw l=0->∃m v,e=.returned (.tuple #[.agg #[.slice ao l.length c,.map (some m)],.bool true])/\vR w' w.heap.size m l l.length v)/\
 (dw l≠0->e=.returned (.tuple #[.agg #[.slice none 0 0,.map none],.bool false]))/\Z w w'
def aN (w:ay):Z w w.drew:=⟨rfl,rfl,rfl,aC _,fun _ _=>rfl⟩
def Aa {w w':ay} {r:Option Nat} {o:Obj} (hg:w.grownBy w' r) (h:w.heap[j]?=some o) (hne:some j≠r):w'.heap[j]?=some o:=(hg.block j (aS.1 h).1 hne).trans h
def fT {j b k:Nat} {o:Obj} {v:Value} (h:w.heap[j]?=some o) (hne:j≠b):(w.setCell ⟨b,k,none⟩ v).heap[j]?=some o:=by
 grind[heap_setCell_other]
def vN.lo {W W':ay} {a:Ac} (h:vN W g o a) (b:Below B W W') (hg:g<B):vN W' g o a:=
 ⟨(b.cell (p:=⟨g,o,none⟩) hg).trans h.nm,(b.cell (p:=⟨g,o+1,none⟩) hg).trans h.pa,(b.cell (p:=⟨g,o+2,none⟩) hg).trans h.sh,(b.cell (p:=⟨g,o+3,none⟩) hg).trans h.cl,(b.cell (p:=⟨g,o+4,none⟩) hg).trans h.us⟩
def below_grown {w w':ay} {r:Option Nat} (hg:w.grownBy w' r) (hr:∀j,r=some j->B<=j) (hB:B<=w.heap.size):Below B w w':=
 ⟨hg.os,hg.tape,hg.output,hg.size,fun k hk=>hg.block k ak (fun e=>by grind)⟩
def dD {w w':ay} {o:Obj} (b:Z w w') (h:w.heap[j]?=some o):w'.heap[j]?=some o:=(b.block j (aS.1 h).1).trans h
def Ox (hA:kD w ao l) (hs:∀a∈l,a.nm.size<=maxLen) (hn:l.length*48<=140737488355328) (hc:l.length<=c):
  Calls prog 203 #[.slice ao l.length c] w (ayN w ao l c):=by
 have hA1:kD (w.alloc (.cells #[.slice none 0 0,.map none] 268)) ao l:=hA.below dY;have hld:=Ov (c:=c) hA1 hs hn hc;have b0:Z w (w.alloc (.cells #[.slice none 0 0,.map none] 268)):=dY;have hT0:(w.alloc (.cells #[.slice none 0 0,.map none] 268)).heap[w.heap.size]?=some (.cells #[.slice none 0 0,.map none] 268 (0,0)):=aK w _;have z0:(w.alloc (.cells #[.slice none 0 0,.map none] 268)).heap.size=w.heap.size+1:=dF;have⟨w0,hw0⟩:=aZ (w.alloc (.cells #[.slice none 0 0,.map none] 268));rw[hw0]at hA1 hld b0 hT0 z0;by_cases hE:dw l=0
 ·have jS:Wu l:=rX hE;have hlen:=jS.len;obtain⟨g,o,hao,hcl⟩:=hA1;obtain rfl:=hao jS.pos;have F6:Hid (∀k a,l[k]?=some a->vN w0 g (o+k*5) a):=hcl;have Qz:Hid (Wu l):=jS;have⟨q,hq⟩:=aZ l.length;have HQ:Hid (l.length=q):=hq;have HE:Hid (dw l=0):=hE;have HE0:Hid (dw l=0):=hE;have HZ:Hid (w0.heap.size=w.heap.size+1):=z0;rw[hq]at hld hlen hc hn;clear hcl hA hs jS hE hao z0;have hmm:= @run_makeMap prog;go_enter func203,ntmps203;go_wp2_with fail
  refine hld.mono ?_;rintro e w1 ⟨h1,_,hb1⟩;obtain⟨t,rfl,_⟩:=h1 HE.out;have b1:=b0.trans (hb1.mono (by have:=HZ.out;omega));have hz1:w.heap.size<w1.heap.size:=by have:=hb1.size;have:=HZ.out;omega
  have T1:=dD hb1 hT0;have KL:Hid (∀k a,l[k]?=some a->vN w1 g (o+k*5) a):=fun k a ha=>(F6.out k a ha).below hb1;clear h1 hld b0 hT0 hb1 F6 HZ HE;have hw2:∃w2,(w1.alloc (.map #[] 0)).alloc (.cells #[.slice (some ⟨g,o,none⟩) q c,.map (some w1.heap.size)] 268)=w2:=⟨_,rfl⟩;obtain⟨w2,hw2⟩:=hw2;have⟨m,hm⟩:=aZ w1.heap.size;have HB2:Hid (vR w2 m m l 1 (fun _=>.slice none 0 0)):=show vR w2 m m l 1 (fun _=>.slice none 0 0) by rw[← hw2,<-hm];exact(vR.made Qz.out (aC _)).below dY
  have bb:Z w1 w2:=by rw[← hw2];exact dY.alloc dF _
  have F2:w2.heap[m+1]?=some (.cells #[.slice (some ⟨g,o,none⟩) q c,.map (some m)] 268 (0,0)):=by rw[← hw2,<-hm];have:=aK (w1.alloc (.map #[] 0)) (.cells #[.slice (some ⟨g,o,none⟩) q c,.map (some w1.heap.size)] 268);simpa using this
  have T2:=dD bb T1;have Sq:Hid (∀k a,l[k]?=some a->vN w2 g (o+k*5) a):=fun k a ha=>(KL.out k a ha).below bb;have b2:=b1.trans (bb.mono ak);have HB1:Hid _:=b2;have HM:Hid (w.heap.size<m):=show w.heap.size<m by omega
  have hm2:=(aS.1 F2).1;have MW:Hid _:=F2;have HT2:Hid _:=T2;have vS:Hid _:=hm2;have HGm:Hid (g<m):=show g<m by obtain⟨a0,ha0,_⟩:=Qz.out.root;have:=aU w1 _ (KL.out 0 a0 ha0).nm;simp only at this;omega
  clear b1 T1 KL bb F2 T2 b2 hz1 hm2;rw[hm]at hw2;go_wp2;obtain⟨i0,hi0,hz0,hz1,hz2⟩:∃i,prog.info? 3=some i/\i.zero=some (J 0)/\i.size=1/\i.bytes=8:=by
   have h:=Tryz.akD
   cases hi:prog.info? 3 with
   | none=>rw[hi]at h;cases h
   | some i=>rw[hi]at h;simp at h;exact⟨i,rfl,h.1,h.2.1,h.2.2⟩
  have HI:Hid (prog.info? 3=some i0/\i0.zero=some (J 0)/\i0.size=1/\i0.bytes=8):=⟨hi0,hz0,hz1,hz2⟩;clear hi0 hz0 hz1 hz2 hw0 hw2 hm;go_loopg [7] q (fun gk x wr=>∃(k:Nat) (v:Nat->Value),0<k/\k<=q/\k+gk=q+1/\x=J k/\vR wr m m l k v/\wr.heap[m+1]?=some (.cells #[.slice (some ⟨g,o,none⟩) q c,.map (some m)] 268 (0,0))/\wr.heap[w.heap.size]?=some (.cells #[.slice none 0 0,.map none] 268 (0,0))/\Z w wr/\(∀k a,l[k]?=some a->vN wr g (o+k*5) a))
  case atStart=>exact⟨1,_,by omega,by have:=Qz.out.pos;have:=HQ.out;omega,by omega,rfl,HB2.out,MW.out,HT2.out,HB1.out,Sq.out⟩
  case round=>
   obtain⟨k,v,hk0,hkl,hkg,rfl,ru,hF,hT,hB,hAc⟩:=hrel;by_cases hkq:k<q
   ·have aE7:(k:Int)<q:=ak;obtain⟨a,ha⟩:∃a,l[k]?=some a:=⟨_,aY (by rw[HQ.out];exact hkq)⟩;have⟨p0,p1,s0,s1⟩:=Qz.out.row ha hk0;rw[HQ.out]at p1;obtain⟨p,hp⟩:∃p:Nat,a.pa=p:=⟨a.pa.toNat,by omega⟩;have HP:Hid (a.pa=p):=hp;have HPq:Hid (p<l.length):=show p<l.length by rw[HQ.out];omega
    have HA:Hid _:=ha;have WM:Hid _:=ru;have x1:wr.cell? ⟨g,o+k*5+1,none⟩=some (J (p:Int)):=(by have:=(hAc k a ha).pa;rw[hp]at this;exact this);have F0:=aj (k:=0) hF rfl;have F1:=aj (k:=1) hF rfl;have b8:Z wr (wr.alloc (.cells #[.slice none 0 0,O 0] 273)).drew:=dY.drew;have lk:=(ru.below b8).look Qz.out.len HPq.out;have⟨va,vc,hv⟩:=bE (ru.row p HPq.out);rw[hv]at lk;have HV:Hid _:=hv;have x2:=aR b8 x1;have F2:=aR b8 F0;have F3:=aR b8 F1;have lk0:=(ru.below (aN wr)).look Qz.out.len HPq.out;rw[hv]at lk0;have HFF:Hid _:=hF;have HTT:Hid _:=hT;have BO:Hid _:=hB;have HAc:Hid _:=hAc;clear ru hF hT hB hAc ha p0 p1 hp hk0 HB2 MW HT2 HB1 Sq b8 hv;have⟨tg,htg⟩:=aZ (oM l (↑p) k);have HTG:Hid (0<=tg/\tg<=262144):=(by have:=Oe Qz.out p (k:=k) ak;rw[htg]at this;exact this);rw[htg]at lk lk0;have HTE:Hid _:=htg;clear htg;have hnk:(om l p k).length<=64:=(by have:=Jl l p k;omega);have⟨nk,ap6⟩:=aZ ((om l p k).length);rw[ap6]at hnk lk lk0;have HN:Hid _:=ap6;clear ap6;go_upto_region 8 with fail
    go_cut [8] (fun b wq=>b=.pointer (some ⟨wr.heap.size,0,none⟩)/\(wr.alloc (.cells #[.slice va nk vc,O tg] 273)).drew=wq)
    case first=>
     go_region
     all_goals
      go_wp2
      go_meet
      exact⟨rfl,rfl⟩
    case rest=>
     obtain⟨rfl,hwA⟩:=hcut;generalize wc=wA at *;have bA:Z wr wA:=(by rw[← hwA];exact dY.drew);have hG:wA.heap[wr.heap.size]?=some (.cells #[.slice va nk vc,O tg] 273 (0,0)):=(by rw[← hwA];exact aK wr _);have hzA:=(aS.1 hG).1;have g0:=aj (k:=0) hG rfl;have g1:=aj (k:=1) hG rfl;have e0:=aD (k:=0) hG;have e1:=aD (k:=1) hG;have HbA:Hid _:=bA;have HzA:Hid _:=hzA;have HG:Hid _:=hG;have hrow:(wA.alloc (.cells #[J (k:Int)] 3)).ownsRow m 3 1 (.slice va nk vc) nk (ints (om l p k)):=(by have:=((WM.out.below bA).row p HPq.out).alloc (.cells #[J (k:Int)] 3);rw[HV.out,HN.out]at this;exact this);have⟨hi0,hz0,hz1,hz2⟩:=HI.out;have hmw:m<=wA.heap.size:=(by have:=WM.out.Ul;omega);have hvl:=fun j hj=>WM.out.Qy HPq.out j (HV.out.symm▸hj:(v p).ownBlock=some j);have bI:Z wA (wA.alloc (.cells #[J (k:Int)] 3)):=dY;have HW1:Hid _:=bA.trans (bI.mono ak);have F7:Hid _:=dD bI hG;have HF1:Hid _:=dD HW1.out HFF.out;have HN8:Hid (∀j,(Value.slice va nk vc).ownBlock=some j->j<wr.heap.size/\m<=j/\j≠m+1):=fun j hj=>by rw[HN.out]at hvl;have⟨j1,j2,j3⟩:=hvl j hj;refine⟨j1,j2,fun e=>?_⟩;have⟨cs,hcs⟩:=iG hrow j hj;rw[e,HF1.out]at hcs;exact absurd (Obj.cells.inj (ji hcs)).2.1 aT
     have HZ1:Hid (wr.heap.size<(wA.alloc (.cells #[J (k:Int)] 3)).heap.size):=show wr.heap.size<(wA.alloc (.cells #[J (k:Int)] 3)).heap.size by simp;omega
     clear lk lk0 x1 x2 F0 F1 F2 F3 hwA bA hzA hG hvl bI;go_wp2_with (at_builtin;refine JI _ rfl (.tmp 35) (.tmp 37) 36 rfl m 3 i0 _ 1 8 underlying36 hi0 hz0 hz1 hz2 rfl aT (.slice va nk vc) nk (ints (om l p k)) rfl hrow ⟨_,0,none⟩ 1 1 [J (k:Int)] rfl rfl (Co _ _ _) (fun u hu=>by simp at hu;subst hu;rfl) ?_ ?_ ?_ ?_;exact(bM (m:=35184372088832) ak aT);omega;(simp;omega);intro v' w5 hown hgr _ hat;obtain⟨va',vc',rfl⟩:=bE hown;have hG5:=Aa hgr F7.out (fun e=>Ct _ (HN8.out _ e.symm).1);have g50:=aj (k:=0) hG5 rfl;have g51:=aj (k:=1) hG5 rfl;have e50:=aD (k:=0) hG5;have e51:=aD (k:=1) hG5;have HG5:Hid _:=hG5;have HO5:Hid _:=hown;have HR5:Hid _:=hgr;have HA5:Hid _:=hat;clear hown hgr hat hG5)
     have⟨w6,uH⟩:=aZ (w5.setCell ⟨wr.heap.size,0,none⟩ (.slice va' (nk+1) vc'));have hG6:w6.heap[wr.heap.size]?=some (.cells #[.slice va' (nk+1) vc',O tg] 273 (0,0)):=(by rw[← uH];exact bS _ _ 0 _ _ _ HG5.out);have h8F:=(aS.1 HFF.out).1;have hF6:w6.heap[m+1]?=some (.cells #[.slice (some ⟨g,o,none⟩) q c,.map (some m)] 268 (0,0)):=(by rw[← uH];exact fT (Aa HR5.out HF1.out (fun e=>(HN8.out _ e.symm).2.2 rfl)) ak);have B56:Below m wr w6:=(by rw[← uH];exact(((HW1.out).mono ak).trans (below_grown HR5.out (fun j hj=>(HN8.out j hj).2.1) (by have:=HZ1.out;omega))).setCell fE _);have C56:aH (fun j=>j=wr.heap.size) w5 w6:=(by rw[← uH];exact(aH.refl _ _).setCell _ _ (.inl rfl));have HA6:Hid _:=(HAc.out k a HA.out).lo B56 HGm.out;have hfs:=fun x (hx:vN x g (o+k*5) a)=>z_ (c:=c) (m:=m) hx hkq ak s1;have g60:=aj (k:=0) hG6 rfl;have g61:=aj (k:=1) hG6 rfl;have e60:=aD (k:=0) hG6;have e61:=aD (k:=1) hG6;have q60:=aj (k:=0) hF6 rfl;have q61:=aj (k:=1) hF6 rfl;have hz6:=(aS.1 hG6).1;have et:IntKind.u64.wrap (tg+a.sh)=tg+a.sh:=(by have:=HTG.out;rw[d_];omega);have ZL:Hid _:=hG6;have HF6:Hid _:=hF6;have HB6:Hid _:=B56;have HC6:Hid _:=C56;have HZ6:Hid _:=hz6;clear g50 g51 e50 e51 g0 g1 e0 e1 hG6 hF6 B56 C56 hz6 hi0 hz0 hz1 hz2 hrow;go_upto_region 10 with fail
     rw[uH];clear uH;go_cut [8] (fun b wq=>b=.pointer (some ⟨wr.heap.size,0,none⟩)/\∃w7,Z w6 w7/\w7.setCell ⟨wr.heap.size,1,none⟩ (O (tg+a.sh))=wq)
     case first=>
      go_region_with (go_at_call 206;refine(hfs _ (HA6.out.below (aN _))).mono ?_;rintro e x ⟨rfl,hx⟩;have y1:=aQ hx g61;have y2:=jQ hx g61 e61)
      all_goals
       go_wp2
       go_meet
       exact⟨rfl,x,(aN w6).trans hx,rfl⟩
     case rest=>
      obtain⟨rfl,w7,hw7,hw8⟩:=hcut;clear g60 g61 e60 e61 q60 q61 hfs;have hG7:=dD hw7 ZL.out;have hG8:wc.heap[wr.heap.size]?=some (.cells #[.slice va' (nk+1) vc',O (tg+a.sh)] 273 (0,0)):=(by rw[← hw8];exact bS _ _ 1 _ _ _ hG7);have h8F:=(aS.1 HFF.out).1;have h8T:=(aS.1 HTT.out).1;have hF8:wc.heap[m+1]?=some (.cells #[.slice (some ⟨g,o,none⟩) q c,.map (some m)] 268 (0,0)):=(by rw[← hw8];exact fT (dD hw7 HF6.out) ak);have B68:Below m wr wc:=(by rw[← hw8];exact(HB6.out.trans (hw7.mono (by have:=HZ6.out;omega))).setCell fE _);have C58:aH (fun j=>j=wr.heap.size) w5 wc.drew:=(by rw[← hw8];exact(((HC6.out.trans (aH.of_below hw7 (fun j=>j=wr.heap.size)) (fun _ _ h=>h)).setCell _ _ (.inl rfl))).drew);have⟨w9,hup,aud,hg9⟩:=WM.out.step Qz.out.len (by rw[HQ.out];exact hkq) HA.out HP.out HPq.out HW1.out (v':=.slice va' (nk+1) vc') (by rw[HN.out];exact HO5.out) (by rw[HV.out,HN.out];exact HR5.out) (by rw[HV.out,HN.out];exact HA5.out) C58 (aC _) HZ1.out;rw[HTE.out]at hup;have A8:=(HAc.out k a HA.out).lo B68 HGm.out;have x8:=A8.pa;rw[HP.out]at x8;have g80:=aj (k:=0) hG8 rfl;have g81:=aj (k:=1) hG8 rfl;have q81:=aj (k:=1) hF8 rfl;have hm9:=WM.out.Ul;have B9:=(B68.trans ((aN wc).mono (by have:=B68.size;omega))).trans (below_grown hg9 (fun j hj=>by have:=ji hj;omega) (by have:=B68.size;simp;omega));have HF9:Hid _:=Aa hg9 (show wc.drew.heap[m+1]?=_ from hF8) dF;have HT9:Hid (w9.heap[w.heap.size]?=some (.cells #[.slice none 0 0,.map none] 268 (0,0))):=(B9.block w.heap.size (by have:=HM.out;omega)).trans HTT.out;have HB9:Hid _:=BO.out.trans (B9.mono (by have:=HM.out;omega));have HA9:Hid (∀k a,l[k]?=some a->vN w9 g (o+k*5) a):=fun i b hb=>(HAc.out i b hb).lo B9 HGm.out;have ayZ:Hid _:=aud;clear hG7 hG8 hF8 B68 C58 A8 aud hg9 B9 hw7 hw8;go_upto_region 11 with fail
      go_region
      go_wp2;go_roundg (q+1 - (k+1))
      case measure=>omega
      case rel=>exact⟨k+1,_,by omega,by omega,by omega,rfl,ayZ.out,HF9.out,HT9.out,HB9.out,HA9.out⟩
   ·obtain rfl:k=q:=ak;have F0:=aj (k:=0) hF rfl;have F1:=aj (k:=1) hF rfl;have T0:=aj (k:=0) hT rfl;have T1:=aj (k:=1) hT rfl;have U0:=aD (k:=0) hT;have U1:=aD (k:=1) hT;have hbr:=ru;rw[← HQ.out]at hbr;have hne:w.heap.size≠m+1:=(by have:=HM.out;omega);have WM:Hid (vR ((wr.setCell ⟨w.heap.size,0,none⟩ (.slice (some ⟨g,o,none⟩) k c)).setCell ⟨w.heap.size,1,none⟩ (.map (some m))) w.heap.size m l l.length v):=
     show vR _ _ _ _ _ _ from(hbr.fF (K:=fun j=>j=w.heap.size) (((aH.refl (fun j=>j=w.heap.size) wr).setCell _ _ (.inl rfl)).setCell _ _ (.inl rfl)) (fun j hj=>.inl (by have:=HM.out;omega))).base (by have:=HM.out;omega)
    have BO:Hid _:=hB;clear hF hT ru hbr hB hAc hk0;go_wp2;refine b_ (v:=.tuple #[.agg #[.slice (some ⟨g,o,none⟩) k c,.map (some m)],.bool true]) (by simp[results,results203,go_sem, *]) rfl ⟨fun _=>⟨m,v,by rw[HQ.out],WM.out⟩,fun h=>absurd HE0.out h,?_⟩;exact(BO.out.setCell (aC _) _).setCell (aC _) _
 ·obtain ⟨er,her⟩:∃er,dw l=er:=⟨_,rfl⟩;have HR:Hid (dw l=er):=her;rw[her]at hE;have he':(er==0)=false:=by simp[hE]
  have HZ:Hid (w0.heap.size=w.heap.size+1):=z0;clear hA hs hn hc her z0;go_enter func203,ntmps203;go_wp2_with fail
  refine hld.mono ?_;rintro e w1 ⟨_,h2,hb1⟩;obtain rfl:=h2 (by rw[HR.out];exact hE);rw[HR.out];have T1:=dD hb1 hT0;have c0:=aj (k:=0) T1 rfl;have c1:=aj (k:=1) T1 rfl;have f0:=aD (k:=0) T1;have f1:=aD (k:=1) T1;have B1:Hid _:=b0.trans (hb1.mono (by have:=HZ.out;omega));clear T1 hT0 b0 hb1 h2 hld hA1;go_wp2;refine b_ (v:=.tuple #[.agg #[.slice none 0 0,.map none],.bool false]) (by simp[results,results203,go_sem, *]) rfl ⟨fun h=>?_,fun _=>rfl,?_⟩
  ·exact absurd (HR.out.symm.trans h) hE
  ·exact (B1.out.setCell (aC _) _).setCell (aC _) _
end
section
open Go.RowKit Wd Tr
def Um (W:ay) (g o:Nat) (l:List Ac):Prop:=∀k a,l[k]?=some a->vN W g (o+k*5) a
theorem Um.below {W W':ay} (h:Um W g o l) (b:Z W W'):Um W' g o l:=fun k a ha=>(h k a ha).below b
def Um.at (h:Um W g o l) {n:Nat} (hn:n<l.length):∃a,l[n]?=some a/\vN W g (o+n*5) a:=⟨_,aY hn,h n _ (aY hn)⟩
def Kj (W:ay) (h:Nat) (f:Nat->Int) (n:Nat):Prop:=∀k,k<n->W.cell? ⟨h,k,none⟩=some (O (f k))
end
section
open Go.RowKit Wd Tr Go.Maps
namespace Tr
section
variable {l:List Ac} {n k k' j:Nat}
theorem Wu.sM (h:Wu l) (hk:k∈dh l n) (hj:j<l.length) (hb:wI l k j):wI l n j/\j≠n:=by
 have:=Tr.sM h (by rw[nM];exact hk) (by grind) (sP.2 hb)
 grind[sP]
theorem Wu.uR (h:Wu l) (hj:j<l.length) (hb:wI l n j) (hne:j≠n):∃k,k∈dh l n/\wI l k j:=by
 have⟨k,h1,h2⟩:=Tr.uR h (by grind) (sP.2 hb) hne;grind[nM,sP]
theorem Wu.AX (h:Wu l) (hk:k∈dh l n) (hk':k'∈dh l n) (hn:n<l.length) (hj:j<l.length) (hb:wI l k j) (hb':wI l k' j):k=k':=
 Tr.AX h (by rw[nM];exact hk) (by grind[nM]) (by grind) (by grind) (sP.2 hb) (sP.2 hb')
def Wu.CF (h:Wu l) (hj:j<l.length):wI l 0 j:=by
 obtain⟨d,_,hd⟩:=h.deep hj;have key:∀d j,lX l d j->wI l 0 j:=fun d=>by
  induction d with
  | zero=>exact fun j hd=>⟨0,hd⟩
  | succ d ih=>grind[wJ,lX]
 grind
end
def jy (l:List Ac) (p:Nat) (D:Nat->Prop) (j:Nat):Nat->Prop:=fun i=>D i\/∃(m k:Nat),m<j/\(dh l p)[m]?=some k/\i<l.length/\wI l k i
def kJ (l:List Ac) (p:Nat) (D:Nat->Prop):Nat->Prop:=fun i=>D i\/(i<l.length/\wI l p i/\i≠p)
section
variable {l:List Ac} {p j k:Nat} {D:Nat->Prop}
def KN:jy l p D 0=D:=by
 grind[jy]
def Un (h:Wu l):jy l p D (dh l p).length=kJ l p D:=by
 funext i;apply propext;constructor
 ·rintro (h1 | ⟨m,k,hm,hk,hi,hb⟩)
  ·exact .inl h1
  ·have:=h.sM (dW hk) hi hb;grind[kJ]
 grind[Wu.uR,kS,kJ,jy]
theorem XR (l:List Ac) (p:Nat):(dh l p).Nodup:=(Tj _).filter _
def agr (h:Wu l) (hp:p<l.length) (hk:(dh l p)[j]?=some k) (hD:∀i,i<l.length->wI l p i->i≠p->¬D i) {i:Nat} (hi:i<l.length) (hb:wI l k i):¬jy l p D j i:=by
 have hkm:=dW hk;rintro (h1 | ⟨m,k',hm,hk',_,hb'⟩)
 ·grind[Wu.sM]
 ·have e:=h.AX hkm (dW hk') hp hi hb hb';grind[tF,XR]
def abN (h:Wu l) (hk:(dh l p)[j]?=some k):kJ l k (fun i=>jy l p D j i\/i=k)=jy l p D (j+1):=by
 grind[Wu.kid,nL,kJ,jy]
end
end Tr
def aue (a b:Value) (w:ay):(Instr.field 273 (.agg #[a,b]) 0).run prog w=.ok a w:=by
 simp[Instr.field,rM underlying273,asAgg,part,isAgg,rM underlying36]
def auf (a b:Value) (w:ay):(Instr.field 273 (.agg #[a,b]) 1).run prog w=.ok b w:=by
 simp[Instr.field,rM underlying273,asAgg,part,isAgg,rM underlying40]
def Oy {B n:Nat} {v:Value} {ks:List Nat} (h:W.ownsRow B 3 1 v n (ints ks)) (hk:ks[j]?=some k):∃b c,v=.slice (some ⟨b,0,none⟩) n c/\W.cell? ⟨b,j,none⟩=some (J (k:Int)):=by
 have hx:(ints ks)[j]?=some (J (k:Int)):=by grind[ints]
 rcases h.2 with⟨_,h0⟩ | ⟨g,cap,cur,e,_,hh,_,_,_,ht⟩
 ·have:=h.1;grind
 grind[aj]
def XT {B m fa va ba fn:Nat} {C:Array Value} (jS:Wu l) (hbr:∀x,aH K WF x->vR x B m l l.length v)
  (kf:¬K fa) (kv:¬K va) (kb:¬K ba)
  (hcf:∀(args:Array Value) (V:ay),(callFunc fn args).run prog V=.ok (.enter fn args) V)
  (ags:∀(D:Nat->Prop) (k:Nat) (w:ay),Inv D w->k≠0->k<l.length->D (up l k)->¬D k->Calls prog fn (#[J (k:Int),J (up l k:Nat)]++C) w fun e w'=>e=.returned (.tuple #[])/\Inv (fun j=>D j\/j=k) w'/\aH K w w'):
  ∀(f:Nat) {p d:Nat} {D:Nat->Prop} {w:ay},aH K WF w->w.cell? ⟨fa,1,none⟩=some (.map (some m))->w.cell? ⟨va,0,none⟩=some (.func (.func fn) #[] C)->
   w.cell? ⟨ba,0,none⟩=some (.func (.func 257) #[] #[.pointer (some ⟨fa,0,none⟩),.pointer (some ⟨va,0,none⟩),.pointer (some ⟨ba,0,none⟩)])->
   Inv D w->p<l.length->lX l d p->4<d+f->D p->(∀i,i<l.length->wI l p i->i≠p->¬D i)->
   Calls prog 257 #[J (p:Int),.pointer (some ⟨fa,0,none⟩),.pointer (some ⟨va,0,none⟩),.pointer (some ⟨ba,0,none⟩)] w fun e w'=>e=.returned (.tuple #[])/\Inv (kJ l p D) w'/\aH K w w':=by
 intro f;induction f with
 | zero=>intro p d D w _ _ _ _ _ hp hd hf;have⟨e,h1,h2⟩:=jS.deep hp;have:=lC hd h2;omega
 | succ f ih=>
  intro p d D w hbel c1 cv cb hinv hp hd hf hDp hDn;have hb0:=hbr w hbel;have hlk:=hb0.look jS.len hp;have⟨sa,sc,hv⟩:=bE (hb0.row p hp);rw[hv]at hlk;have HDE:Hid (jy l p D (om l p l.length).length=kJ l p D):=Un jS;have HPL:Hid ((om l p l.length).length=(dh l p).length):=rfl;have⟨nk,hnk⟩:=aZ ((om l p l.length).length);have auh:nk<=64:=by have:=Jl l p l.length;have:=jS.len;omega
  rw[hnk]at hlk;have HNK:Hid _:=hnk;have HW:Hid (Wu l):=jS;have HV:Hid _:=hv;have ay0:Hid _:=ags;have HIH:Hid _:= @ih;have ap_:Hid (∀x,aH K WF x->vR x B m l l.length v):=hbr;have ale:Hid _:=hbel;have QA:Hid _:=hinv;have HDp:Hid _:=hDp;have HDn:Hid _:=hDn;have HC:Hid (w.cell? ⟨fa,1,none⟩=some (.map (some m))/\w.cell? ⟨va,0,none⟩=some (.func (.func fn) #[] C)/\w.cell? ⟨ba,0,none⟩=some (.func (.func 257) #[] #[.pointer (some ⟨fa,0,none⟩),.pointer (some ⟨va,0,none⟩),.pointer (some ⟨ba,0,none⟩)])):=⟨c1,cv,cb⟩;have HPp:Hid (p<l.length):=hp;have HDD:Hid (lX l d p):=hd;have HF:Hid _:=hf;clear hbel hinv hDp hDn ags ih hb0 hv hnk cv cb hp hd hf jS hbr;generalize oM l (↑p) l.length=tg at *;have hfl:=aue (.slice sa nk sc) (O tg);go_enter func257,ntmps257;go_wp2;go_loopg [13] nk (fun gk x wr=>∃j:Nat,j+gk=nk/\x=J j/\Inv (jy l p D j) wr/\aH K w wr)
  case atStart=>exact⟨0,by omega,rfl,by rw[KN];exact QA.out,aH.refl _ _⟩
  case round=>
   obtain⟨j,hj,rfl,hi,hch⟩:=hrel;by_cases hlt:j<nk
   ·have hlt':(j:Int)<nk:=ak;obtain⟨k,hk⟩:∃k,(dh l p)[j]?=some k:=⟨_,aY (by rw[← HPL.out,HNK.out];exact hlt)⟩;have hkm:=dW hk;have⟨hk0,hkl,hku⟩:=HW.out.kid hkm;have B1:=ale.out.trans hch (fun _ _ h=>h);have⟨b,c,hvv,hcell⟩:=Oy ((ap_.out wr B1).row p HPp.out) (j:=j) (k:=k) hk;rw[HV.out,HNK.out]at hvv;obtain⟨rfl,rfl⟩:sa=some ⟨b,0,none⟩/\sc=c:=(by have:=Value.slice.inj hvv;exact⟨this.1,this.2.2⟩);have cv:=hch.cell HC.out.2.1 kv;have cb:=hch.cell HC.out.2.2 kb;have c1':=hch.cell HC.out.1 kf;have hnd:∀i,i<l.length->wI l k i->¬jy l p D j i:=fun i hi hb=>agr HW.out HPp.out hk HDn.out hi hb;have hv1:=ay0.out (jy l p D j) k wr hi hk0 hkl (by rw[hku];exact .inl HDp.out) (hnd k hkl (nL l k));rw[hku]at hv1;have HB2:Hid (∀x,Inv (fun i=>jy l p D j i\/i=k) x->aH K wr x->Calls prog 257 #[J (k:Int),.pointer (some ⟨fa,0,none⟩),.pointer (some ⟨va,0,none⟩),.pointer (some ⟨ba,0,none⟩)] x fun e w'=>e=.returned (.tuple #[])/\Inv (kJ l k (fun i=>jy l p D j i\/i=k)) w'/\aH K x w'):=fun x hx hcx=>HIH.out (d:=d+1) (B1.trans hcx (fun _ _ h=>h)) (hcx.cell c1' kf) (hcx.cell cv kv) (hcx.cell cb kb) hx hkl (HW.out.qF hkm HDD.out) (by have:=HF.out;omega) (.inr rfl) (fun i hi hb hne h=>h.elim (hnd i hi hb) hne);have HCB:Hid _:=cb;have HN:Hid (kJ l k (fun i=>jy l p D j i\/i=k)=jy l p D (j+1)):=abN HW.out hk;have HCH:Hid _:=hch;clear hi hch hk hkm hk0 hkl hku B1 hvv hnd cb c1';go_wp2_with fail
    refine hv1.mono ?_;rintro e w1 ⟨rfl,hi1,hc1⟩;have cb1:=hc1.cell HCB.out kb;have hv2:=HB2.out w1 hi1 hc1;have KL:Hid _:=hc1;clear hv1 hi1 hc1;go_wp2_with fail
    refine hv2.mono ?_;rintro e w2 ⟨rfl,hi2,hc2⟩;rw[HN.out]at hi2;have HI2:Hid _:=hi2;have Sq:Hid _:=(HCH.out.trans KL.out (fun _ _ h=>h)).trans hc2 (fun _ _ h=>h);clear hv2 hi2 hc2 cv cb1 hcell;go_wp2;go_roundg (nk - (j+1))
    case measure=>omega
    case rel=>exact⟨j+1,by omega,rfl,HI2.out,Sq.out⟩
   ·obtain rfl:j=nk:=ak;have HI:Hid (Inv (kJ l p D) wr):=show Inv (kJ l p D) wr by rw[← HDE.out,HNK.out];exact hi
    have HCH:Hid _:=hch;clear hi hch;go_wp2;go_end0
    exact⟨rfl,HI.out,HCH.out⟩
def Oz {B m L c fn:Nat} {C:Array Value} (jS:Wu l) (hbr:∀x,aH K WF x->vR x B m l l.length v)
  (kl:∀j,K j->j<w.heap.size) (hbel:aH K WF w) (hst:∀D x y,Inv D x->Z x y->Inv D y)
  (hcf:∀(args:Array Value) (V:ay),(callFunc fn args).run prog V=.ok (.enter fn args) V)
  (ags:∀(D:Nat->Prop) (k:Nat) (w:ay),Inv D w->k≠0->k<l.length->D (up l k)->¬D k->Calls prog fn (#[J (k:Int),J (up l k:Nat)]++C) w fun e w'=>e=.returned (.tuple #[])/\Inv (fun j=>D j\/j=k) w'/\aH K w w')
  (hinv:Inv (fun j=>j=0) w):
  Calls prog 204 #[.agg #[.slice ao L c,.map (some m)],.func (.func fn) #[] C] w fun e w'=>e=.returned (.tuple #[])/\Inv (fun j=>j<l.length) w'/\aH K w w':=by
 have hD:kJ l 0 (fun j=>j=0)=fun j=>j<l.length:=by
  funext i;apply propext;constructor
  ·rintro (rfl | ⟨hi,_⟩)
   ·exact jS.pos
   ·exact hi
  ·intro hi;by_cases e:i=0
   ·exact .inl e
   ·exact .inr ⟨hi,jS.CF hi,e⟩
 have hmf:∀(fn:Fn) (first cap:Array Value) (w:ay),(Instr.makeFunc fn first cap).run prog w=.ok (.func fn first cap) w:=fun _ _ _ _=>rfl;obtain⟨w3,hw3⟩:∃w3,((w.alloc (.cells #[.slice ao L c,.map (some m)] 268)).alloc (.cells #[.func (.func fn) #[] C] 188)).alloc (.cells #[.func (.func 257) #[] #[.pointer (some ⟨w.heap.size,0,none⟩),.pointer (some ⟨w.heap.size+1,0,none⟩),.pointer (some ⟨w.heap.size+1+1,0,none⟩)]] 129)=w3:=⟨_,rfl⟩;have b3:Z w w3:=by rw[← hw3];exact(dY.alloc dF _).alloc fE _
 have q1:w3.cell? ⟨w.heap.size,1,none⟩=some (.map (some m)):=by rw[← hw3];simp[go_sem]
 have q2:w3.cell? ⟨w.heap.size+1,0,none⟩=some (.func (.func fn) #[] C):=by rw[← hw3];simp[go_sem]
 have q3:w3.cell? ⟨w.heap.size+1+1,0,none⟩=some (.func (.func 257) #[] #[.pointer (some ⟨w.heap.size,0,none⟩),.pointer (some ⟨w.heap.size+1,0,none⟩),.pointer (some ⟨w.heap.size+1+1,0,none⟩)]):=by rw[← hw3];simp[go_sem]
 have hb:=XT (fa:=w.heap.size) (va:=w.heap.size+1) (ba:=w.heap.size+1+1) (WF:=WF) (K:=K) (Inv:=Inv) jS hbr (fun h=>by have:=kl _ h;omega) (fun h=>by have:=kl _ h;omega) (fun h=>by have:=kl _ h;omega) hcf ags 5 (p:=0) (d:=0) (D:=fun j=>j=0) (w:=w3)
  (hbel.trans (aH.of_below b3 K) (fun _ _ h=>h)) q1 q2 q3 (hst _ _ _ hinv b3) jS.pos rfl ak rfl (fun i _ _ hne=>hne)
 rw[hD]at hb;have HB:Hid _:=b3;have HK:Hid _:=kl;clear ags hinv hst hbel kl jS hbr hD b3 q1 q2;go_enter func204,ntmps204;go_wp2_with fail
 refine hb.mono ?_;rintro e w4 ⟨rfl,hi,hc⟩;have HI:Hid _:=hi;have HC:Hid _:=(aH.of_below HB.out K).trans hc (fun _ _ h=>h);clear hi hc q3;go_wp2;go_end0
 exact⟨rfl,HI.out,HC.out⟩
end
section
open Go.RowKit Wd Tr Go.Maps
def Um.lo {W W':ay} (h:Um W g o l) (b:Below B W W') (hg:∀(k:Nat) (a:Ac),l[k]?=some a->g<B):Um W' g o l:=fun k a ha=>(h k a ha).lo b (hg k a ha)
def bZ (W:ay) (b L:Nat) (f:Nat->Int):Prop:=∃cur,W.heap[b]?=some (.cells cur 40 (0,0))/\cur.size=L/\∀j,j<L->cur[j]?=some (O (f j))
def Nf (f:Nat->Int) (k:Nat) (x:Int):Nat->Int:=fun j=>if j=k then x else f j
section
variable {W W':ay} {b L:Nat} {f:Nat->Int}
theorem bZ.cell (h:bZ W b L f) (hj:j<L):W.cell? ⟨b,j,none⟩=some (O (f j)):=by
 grind[aj,bZ]
theorem bZ.free (h:bZ W b L f) (j:Nat):W.frozen? ⟨b,j,none⟩=false:=by
 grind[aD,bZ]
theorem bZ.lt (h:bZ W b L f):b<W.heap.size:=by
 grind[bZ]
theorem bZ.same (h:bZ W b L f) (e:W'.heap[b]?=W.heap[b]?):bZ W' b L f:=by
 grind[bZ]
theorem bZ.below (h:bZ W b L f) (e:Z W W'):bZ W' b L f:=h.same (e.block b h.lt)
def bZ.set (h:bZ W b L f) (k:Nat) (x:Int):bZ (W.setCell ⟨b,k,none⟩ (O x)) b L (Nf f k x):=by
 obtain⟨cur,h1,h2,h3⟩:=h;refine⟨_,bS W b k cur _ _ h1,by grind,fun j hj=>?_⟩;grind[Nf]
def bZ.other (h:bZ W b L f) {v:Value} (e:b≠g):bZ (W.setCell ⟨g,k,none⟩ v) b L f:=h.same (heap_setCell_other W ⟨g,k,none⟩ b v e)
def bZ.congr {f':Nat->Int} (h:bZ W b L f) (e:∀j,j<L->f j=f' j):bZ W b L f':=by
 grind[bZ]
end
structure Ng (WF:ay) (m g o c g1 g2 g3 nb db:Nat) (l:List Ac) (D:Nat->Prop) (w:ay):Prop where
 dQ:aH (fun j=>j=nb\/j=db) WF w
 c1:w.cell? ⟨g1,0,none⟩=some (.slice (some ⟨nb,0,none⟩) l.length l.length)
 c2:w.cell? ⟨g2,0,none⟩=some (.slice (some ⟨g,o,none⟩) l.length c)
 c2':w.cell? ⟨g2,1,none⟩=some (.map (some m))
 c3:w.cell? ⟨g3,0,none⟩=some (.slice (some ⟨db,0,none⟩) l.length l.length)
 num:∃f,bZ w nb l.length f/\∀j,j<l.length->D j->f j=lG l j
 den:∃f,bZ w db l.length f/\∀j,j<l.length->D j->f j=lN l j
 ne:nb≠db
theorem Ng.st {m g o c g1 g2 g3 nb db:Nat} {D:Nat->Prop} {x y:ay} (h:Ng WF m g o c g1 g2 g3 nb db l D x) (b:Z x y):Ng WF m g o c g1 g2 g3 nb db l D y:=by
 have⟨f,f1,f2⟩:=h.num;have⟨f',f1',f2'⟩:=h.den;exact⟨h.dQ.trans (aH.of_below b _) (fun _ _ h=>h),aR b h.c1,aR b h.c2,aR b h.c2',aR b h.c3,⟨f,f1.below b,f2⟩,⟨f',f1'.below b,f2'⟩,h.ne⟩
def aqb {a0 a1 a2 a3:Addr} {v0 v1 v2 v3:Value} (hb:Z W w) (h:W.cell? a0=some v0/\W.cell? a1=some v1/\W.cell? a2=some v2/\W.cell? a3=some v3):w.cell? a0=some v0/\w.cell? a1=some v1/\w.cell? a2=some v2/\w.cell? a3=some v3:=
 ⟨aQ hb h.1,aQ hb h.2.1,aQ hb h.2.2.1,aQ hb h.2.2.2⟩
def dI {b k g j:Nat} {u v:Value} (h:W.cell? ⟨g,j,none⟩=some v) (hne:g≠b\/j≠k):(W.setCell ⟨b,k,none⟩ u).cell? ⟨g,j,none⟩=some v:=by
 grind[World.cell?_setCell_other]
def auj {g1 g2 nb k pk:Nat} {u v0 v1 v2 v3:Value} (n1:g1≠nb) (n2:g2≠nb) (hk:pk≠k) (h:W.cell? ⟨g1,0,none⟩=some v0/\W.cell? ⟨g2,0,none⟩=some v1/\W.cell? ⟨g2,1,none⟩=some v2/\W.cell? ⟨nb,pk,none⟩=some v3):
  (W.setCell ⟨nb,k,none⟩ u).cell? ⟨g1,0,none⟩=some v0/\(W.setCell ⟨nb,k,none⟩ u).cell? ⟨g2,0,none⟩=some v1/\(W.setCell ⟨nb,k,none⟩ u).cell? ⟨g2,1,none⟩=some v2/\(W.setCell ⟨nb,k,none⟩ u).cell? ⟨nb,pk,none⟩=some v3:=
 ⟨dI h.1 (.inl n1),dI h.2.1 (.inl n2),dI h.2.2.1 (.inl n2),dI h.2.2.2 (.inr hk)⟩
def agt {B m g o c g1 g2 g3 nb db:Nat} (jS:Wu l) (Nh:∀x,aH (fun j=>j=nb\/j=db) WF x->Um x g o l) (hbr:∀x,aH (fun j=>j=nb\/j=db) WF x->vR x B m l l.length v)
  (n1:g1≠nb) (n2:g2≠nb) (n3:g3≠nb) (d1:g1≠db) (d2:g2≠db) (d3:g3≠db) (D:Nat->Prop) (k:Nat) (w:ay) (hi:Ng WF m g o c g1 g2 g3 nb db l D w) (hk0:k≠0) (hk:k<l.length) (hDp:D (up l k)) (hDk:¬D k):
  Calls prog 205 #[J (k:Int),J (up l k:Nat),.pointer (some ⟨g1,0,none⟩),.pointer (some ⟨g2,0,none⟩),.pointer (some ⟨g3,0,none⟩)] w fun e w'=>e=.returned (.tuple #[])/\Ng WF m g o c g1 g2 g3 nb db l (fun j=>D j\/j=k) w'/\aH (fun j=>j=nb\/j=db) w w':=by
 have⟨fn,hfn,hfn'⟩:=hi.num;have⟨fd,hfd,aqc⟩:=hi.den;have Sr:=jS.tO hk;have F8:=jS.len;have HLK:Hid (∀x,aH (fun j=>j=nb\/j=db) WF x->(Instr.lookup 266 (.map (some m)) (J (up l k:Nat)) false).run prog x=.ok (.agg #[v (up l k),O (Od l (up l k))]) x):=fun x hx=>(hbr x hx).look F8 Sr;have hfl:=auf (v (up l k)) (O (Od l (up l k)));have⟨a,ha,hac⟩:=(Nh w hi.dQ).at hk;have hs:=jS.afQ k a ha;have hb1:=Ee jS hk;have hb2:=Ee jS Sr;have ht:=TW jS (up l k);have e1:=apQ jS hk hk0;have e2:=apR jS hk hk0;rw[TU ha]at e1;have k3:IntKind.u64.wrap (lG l (up l k)*a.sh)=lG l k:=by rw[← e1,d_];omega
 have k4:IntKind.u64.wrap (lN l (up l k)*Od l (up l k))=lN l k:=by rw[← e2,d_];omega
 have p1:=hfn.cell Sr;rw[hfn' _ Sr hDp]at p1;have p2:=hfd.cell Sr;rw[aqc _ Sr hDp]at p2;have p3:=hfn.cell hk;have p4:=hfd.cell hk;have f3:=hfn.free k;have f4:=hfd.free k;have HSH:Hid (∀x,Z w x->Calls prog 206 #[.agg #[.slice (some ⟨g,o,none⟩) l.length c,.map (some m)],J (k:Int)] x fun e w'=>e=.returned (O a.sh)/\Z x w'):=fun x hx=>z_ (c:=c) (m:=m) ((Nh x (hi.dQ.trans (aH.of_below hx _) (fun _ _ h=>h))) k a ha) hk ak hs.2;have⟨q1,q2,q2',q3⟩:=(⟨hi.c1,hi.c2,hi.c2',hi.c3⟩:_/\_/\_/\_);have hne:=hi.ne;have hkp:=jS.aoS hk hk0;have HFN:Hid (bZ w nb l.length fn/\∀j,j<l.length->D j->fn j=lG l j):=⟨hfn,hfn'⟩;have HFD:Hid (bZ w db l.length fd/\∀j,j<l.length->D j->fd j=lN l j):=⟨hfd,aqc⟩;have HI:Hid _:=hi;have hk':(k:Int)<l.length:=ak;have hu':((up l k:Nat):Int)<l.length:=ak;have HD:Hid _:=hDk;clear hi hfn hfn' hfd aqc hs hb1 hb2 ht e1 e2 hac ha hDp hDk hk0 Sr F8 hbr Nh;obtain⟨N2,hN2⟩:∃N,lG l k=N:=⟨_,rfl⟩;obtain⟨D2,hD2⟩:∃N,lN l k=N:=⟨_,rfl⟩;rw[hN2]at k3;rw[hD2]at k4;have HN2:Hid _:=hN2;have HD2:Hid _:=hD2;have HQ:Hid (w.cell? ⟨g1,0,none⟩=some (.slice (some ⟨nb,0,none⟩) l.length l.length)/\w.cell? ⟨g2,0,none⟩=some (.slice (some ⟨g,o,none⟩) l.length c)/\w.cell? ⟨g2,1,none⟩=some (.map (some m))/\w.cell? ⟨g3,0,none⟩=some (.slice (some ⟨db,0,none⟩) l.length l.length)):=⟨q1,q2,q2',q3⟩;clear hN2 hD2 jS;generalize lG l (up l k)=N1 at *;generalize lN l (up l k)=D1 at *;generalize Od l (up l k)=tg at *;generalize v (up l k)=vu at *;generalize a.sh=sh at *;have⟨pk,hpk⟩:=aZ (up l k);rw[hpk]at p1 p2 hu' HLK hkp ⊢;clear hpk;go_enter func205,ntmps205;go_upto_region 0 with fail
 go_cut [0] (fun b wq=>b=J (k:Int)/\∃x,Z w x/\x.setCell ⟨nb,k,none⟩ (O N2)=wq)
 case first=>
  have HS:Hid (w.drew.cell? ⟨g1,0,none⟩=some (.slice (some ⟨nb,0,none⟩) l.length l.length)/\w.drew.cell? ⟨g2,0,none⟩=some (.slice (some ⟨g,o,none⟩) l.length c)/\w.drew.cell? ⟨g2,1,none⟩=some (.map (some m))/\w.drew.cell? ⟨nb,pk,none⟩=some (O N1)):=⟨q1,q2,q2',p1⟩;clear q1 q2 q2' q3 p1 p2 p4 f4 hfl;go_region_held3 (fun x=>x.cell? ⟨g1,0,none⟩=some (.slice (some ⟨nb,0,none⟩) l.length l.length)/\x.cell? ⟨g2,0,none⟩=some (.slice (some ⟨g,o,none⟩) l.length c)/\x.cell? ⟨g2,1,none⟩=some (.map (some m))/\x.cell? ⟨nb,pk,none⟩=some (O N1)) (first | exact HS.out | exact aqb lV lV | exact auj n1 n2 hkp lV)
   (first | (go_at_call 206;refine(HSH.out _ (aN _)).mono ?_;rintro e x ⟨rfl,hx⟩;have y3:=aQ hx p3;have y4:=jQ hx p3 f3))
  all_goals
   go_wp2
   go_meet
   exact⟨rfl,x,(aN w).trans hx,rfl⟩
 case rest=>
  obtain⟨rfl,x,hx,hw1⟩:=hcut;have b1:aH (fun j=>j=nb\/j=db) WF wc:=by rw[← hw1];exact(HI.out.dQ.trans (aH.of_below hx (fun j=>j=nb\/j=db)) (fun _ _ h=>h)).setCell _ _ (.inl (.inl rfl))
  have lk:=HLK.out wc.drew b1.drew;have z1:wc.cell? ⟨g3,0,none⟩=some (.slice (some ⟨db,0,none⟩) l.length l.length):=by rw[← hw1];exact dI (aQ hx q3) (.inl n3)
  have z2:wc.cell? ⟨db,pk,none⟩=some (O D1):=by rw[← hw1];exact dI (aQ hx p2) (.inl (iN hne))
  have z3:wc.cell? ⟨g2,1,none⟩=some (.map (some m)):=by rw[← hw1];exact dI (aQ hx q2') (.inl n2)
  have RN:bZ wc nb l.length (Nf fn k N2):=by rw[← hw1];exact(HFN.out.1.below hx).set k N2
  have RD:bZ wc db l.length fd:=by rw[← hw1];exact(HFD.out.1.below hx).other (iN hne)
  have z4:=RD.cell hk;have z5:=RD.free k;have w1:wc.cell? ⟨g1,0,none⟩=some (.slice (some ⟨nb,0,none⟩) l.length l.length):=by rw[← hw1];exact dI (aQ hx q1) (.inl n1)
  have w2:wc.cell? ⟨g2,0,none⟩=some (.slice (some ⟨g,o,none⟩) l.length c):=by rw[← hw1];exact dI (aQ hx q2) (.inl n2)
  have HJ:Hid (Ng WF m g o c g1 g2 g3 nb db l (fun j=>D j\/j=k) (wc.setCell ⟨db,k,none⟩ (O D2)).drew):=show Ng WF m g o c g1 g2 g3 nb db l (fun j=>D j\/j=k) (wc.setCell ⟨db,k,none⟩ (O D2)).drew from
   Ng.st ⟨b1.setCell _ _ (.inl (.inr rfl)),dI w1 (.inl d1),dI w2 (.inl d2),dI z3 (.inl d2),dI z1 (.inl d3),⟨_,RN.other hne,fun j hj hd=>by
     unfold Nf
     by_cases e:j=k
     ·rw[aJ e,e,HN2.out]
     ·rw[au e];exact HFN.out.2 j hj (hd.elim id (fun h=>absurd h e))⟩,⟨_,RD.set k D2,fun j hj hd=>by
     unfold Nf
     by_cases e:j=k
     ·rw[aJ e,e,HD2.out]
     ·rw[au e];exact HFD.out.2 j hj (hd.elim id (fun h=>absurd h e))⟩,hne⟩ (aN _)
  have HC:Hid (aH (fun j=>j=nb\/j=db) w (wc.setCell ⟨db,k,none⟩ (O D2)).drew):=show aH (fun j=>j=nb\/j=db) w (wc.setCell ⟨db,k,none⟩ (O D2)).drew by rw[← hw1];exact(((aH.of_below hx _).setCell _ _ (.inl (.inl rfl))).setCell _ _ (.inl (.inr rfl))).drew
  clear b1 RN RD w1 w2 q1 q2 q2' q3 p1 p2 p3 p4 f3 f4 hx hw1 HFN HFD HLK HSH HI;go_upto_region 1 with fail
  go_region
  all_goals
   go_wp2
   go_end0
   exact⟨rfl,HJ.out,HC.out⟩
structure QB (WF:ay) (m g o c g1 g2 ub:Nat) (l:List Ac) (W:Int) (D:Nat->Prop) (w:ay):Prop where
 dQ:aH (fun j=>j=ub) WF w
 c1:w.cell? ⟨g1,0,none⟩=some (.slice (some ⟨ub,0,none⟩) l.length l.length)
 c2:w.cell? ⟨g2,0,none⟩=some (.slice (some ⟨g,o,none⟩) l.length c)
 c2':w.cell? ⟨g2,1,none⟩=some (.map (some m))
 row:∃f,bZ w ub l.length f/\∀j,j<l.length->(D j->f j=uK l W j)/\(¬D j->f j=uV l W j)
theorem QB.st {m g o c g1 g2 ub:Nat} {W:Int} {D:Nat->Prop} {x y:ay} (h:QB WF m g o c g1 g2 ub l W D x) (b:Z x y):QB WF m g o c g1 g2 ub l W D y:=by
 have⟨f,f1,f2⟩:=h.row;exact⟨h.dQ.trans (aH.of_below b _) (fun _ _ h=>h),aR b h.c1,aR b h.c2,aR b h.c2',⟨f,f1.below b,f2⟩⟩
def agv {B m g o c g1 g2 ub:Nat} {W:Int} (jS:Wu l) (yP:nN l) (hW:WOk l W) (Nh:∀x,aH (fun j=>j=ub) WF x->Um x g o l) (hbr:∀x,aH (fun j=>j=ub) WF x->vR x B m l l.length v)
  (n1:g1≠ub) (n2:g2≠ub) (D:Nat->Prop) (k:Nat) (w:ay) (hi:QB WF m g o c g1 g2 ub l W D w) (hk0:k≠0) (hk:k<l.length) (hDp:D (up l k)) (hDk:¬D k):
  Calls prog 209 #[J (k:Int),J (up l k:Nat),.pointer (some ⟨g1,0,none⟩),.pointer (some ⟨g2,0,none⟩)] w fun e w'=>e=.returned (.tuple #[])/\QB WF m g o c g1 g2 ub l W (fun j=>D j\/j=k) w'/\aH (fun j=>j=ub) w w':=by
 have⟨fn,hfn,hfn'⟩:=hi.row;have Sr:=jS.tO hk;have F8:=jS.len;have HLK:Hid (∀x,aH (fun j=>j=ub) WF x->(Instr.lookup 266 (.map (some m)) (J (up l k:Nat)) false).run prog x=.ok (.agg #[v (up l k),O (Od l (up l k))]) x):=fun x hx=>(hbr x hx).look F8 Sr;have hfl:=auf (v (up l k)) (O (Od l (up l k)));have⟨a,ha,hac⟩:=(Nh w hi.dQ).at hk;have hs:=jS.afQ k a ha;have ht:=TW jS (up l k);have hf:=afW jS yP hW hk hk0;have hw1:=Ef jS yP hW hk;have hw2:=Ef jS yP hW Sr;have e1:=afV jS W hk hk0;have hst:=Qs jS hk hk0;rw[TU ha]at e1 hst;have k3:IntKind.u64.wrap (uK l W (up l k) - uV l W k)=uK l W (up l k) - uV l W k:=by rw[d_];omega
 have hpq:=Qt (x:=uK l W (up l k) - uV l W k) ak hst.1 hst.2;have k4:IntKind.u64.wrap (uV l W k+(uK l W (up l k) - uV l W k)*a.sh / Od l (up l k))=uK l W k:=by rw[← e1,d_];omega
 have cP:=Ow (a:=uK l W (up l k) - uV l W k) (n:=a.sh) (d:=Od l (up l k)) ⟨by omega,by omega⟩ ⟨by omega,by omega⟩ ⟨by omega,by omega⟩ ak;have p1:=hfn.cell Sr;rw[(hfn' _ Sr).1 hDp]at p1;have p3:=hfn.cell hk;rw[(hfn' _ hk).2 hDk]at p3;have f3:=hfn.free k;have HSH:Hid (∀x,Z w x->Calls prog 206 #[.agg #[.slice (some ⟨g,o,none⟩) l.length c,.map (some m)],J (k:Int)] x fun e w'=>e=.returned (O a.sh)/\Z x w'):=fun x hx=>z_ (c:=c) (m:=m) ((Nh x (hi.dQ.trans (aH.of_below hx _) (fun _ _ h=>h))) k a ha) hk ak hs.2;have⟨q1,q2,q2'⟩:=(⟨hi.c1,hi.c2,hi.c2'⟩:_/\_/\_);have hkp:=jS.aoS hk hk0;have HFN:Hid (bZ w ub l.length fn/\∀j,j<l.length->(D j->fn j=uK l W j)/\(¬D j->fn j=uV l W j)):=⟨hfn,hfn'⟩;have HI:Hid _:=hi;have hk':(k:Int)<l.length:=ak;have hu':((up l k:Nat):Int)<l.length:=ak;have HLW:Hid (∀x,Z w x->(Instr.lookup 266 (.map (some m)) (J (up l k:Nat)) false).run prog x=.ok (.agg #[v (up l k),O (Od l (up l k))]) x):=fun x hx=>HLK.out x (hi.dQ.trans (aH.of_below hx _) (fun _ _ h=>h));clear hi hfn hfn' hs ht hf hw1 hw2 e1 hst hpq hac ha hDp hDk hk0 Sr F8 hbr Nh HLK;obtain⟨N2,hN2⟩:∃N,uK l W k=N:=⟨_,rfl⟩;rw[hN2]at k4;have HN2:Hid _:=hN2;clear hN2 jS hW yP;generalize (uK l W (up l k) - uV l W k)*a.sh / Od l (up l k)=Q at *;generalize uK l W (up l k)=E1 at *;obtain⟨U1,hU1⟩:∃U,uV l W k=U:=⟨_,rfl⟩;rw[hU1]at k3 k4 p3 cP;clear hU1;generalize Od l (up l k)=tg at *;generalize v (up l k)=vu at *;generalize a.sh=sh at *;have⟨pk,hpk⟩:=aZ (up l k);rw[hpk]at p1 hu' HLW hkp ⊢;clear hpk;have lk0:=HLW.out w.drew (aN w);have HS:Hid (w.drew.cell? ⟨g1,0,none⟩=some (.slice (some ⟨ub,0,none⟩) l.length l.length)/\w.drew.cell? ⟨g2,0,none⟩=some (.slice (some ⟨g,o,none⟩) l.length c)/\w.drew.cell? ⟨g2,1,none⟩=some (.map (some m))/\w.drew.cell? ⟨ub,pk,none⟩=some (O E1)):=⟨q1,q2,q2',p1⟩;have HQ:Hid (w.cell? ⟨g1,0,none⟩=some (.slice (some ⟨ub,0,none⟩) l.length l.length)/\w.cell? ⟨g2,0,none⟩=some (.slice (some ⟨g,o,none⟩) l.length c)/\w.cell? ⟨g2,1,none⟩=some (.map (some m))):=⟨q1,q2,q2'⟩;clear q1 q2 q2' p1;go_enter func209,ntmps209;go_upto_region 0 with fail
 refine aG (S:=fun x=>x.cell? ⟨g1,0,none⟩=some (.slice (some ⟨ub,0,none⟩) l.length l.length)/\x.cell? ⟨g2,0,none⟩=some (.slice (some ⟨g,o,none⟩) l.length c)/\x.cell? ⟨g2,1,none⟩=some (.map (some m))/\x.cell? ⟨ub,pk,none⟩=some (O E1)/\x.cell? ⟨ub,k,none⟩=some (O U1)/\Z w x) (L:=24) aF ?_;have oQ:(fun x:World=>x.cell? ⟨g1,0,none⟩=some (.slice (some ⟨ub,0,none⟩) l.length l.length)/\x.cell? ⟨g2,0,none⟩=some (.slice (some ⟨g,o,none⟩) l.length c)/\x.cell? ⟨g2,1,none⟩=some (.map (some m))/\x.cell? ⟨ub,pk,none⟩=some (O E1)/\x.cell? ⟨ub,k,none⟩=some (O U1)/\Z w x) w.drew:=⟨HS.out.1,HS.out.2.1,HS.out.2.2.1,HS.out.2.2.2,p3,aN w⟩;refine bU (i:=0) (v:=?v0) rfl aF aF aF aF rfl (fun _ _ _ h=>h) iW oQ ?hy0 ?aum
 case hy0=>exact jZ
 simp only[Act.put,jO,jX,jg];refine bU (i:=1) (v:=?v1) rfl aF aF aF aF rfl (fun _ _ _ h=>h) iW oQ ?hy1 ?aun
 case hy1=>exact jZ
 simp only[Act.put,jO,jX,jg];refine bU (i:=2) (v:=?v2) rfl aF aF aF aF rfl (fun _ _ _ h=>h) iW oQ ?hy2 ?auo
 case hy2=>exact jZ
 simp only[Act.put,jO,jX,jg];refine bU (i:=3) (v:=?v3) rfl aF aF aF aF rfl (fun _ _ _ h=>h) iW oQ ?hy3 ?aup
 case hy3=>exact jZ
 simp only[Act.put,jO,jX,jg];refine bU (i:=4) (v:=?v4) rfl aF aF aF aF rfl (fun _ _ _ h=>h) iW oQ ?hy4 ?auq
 case hy4=>exact jZ
 simp only[Act.put,jO,jX,jg];refine bU (i:=5) (v:=?v5) rfl aF aF aF aF rfl (fun _ _ _ h=>h) iW oQ ?hy5 ?aur
 case hy5=>exact jZ
 simp only[Act.put,jO,jX,jg];refine bU (i:=6) (v:=?v6) rfl aF aF aF aF rfl (fun _ _ _ h=>h) iW oQ ?hy6 ?aCd
 case hy6=>exact jZ
 simp only[Act.put,jO,jX,jg];refine bU (i:=7) (v:=?v7) rfl aF aF aF aF rfl (fun _ _ _ h=>h) iW oQ ?hy7 ?aCe
 case hy7=>exact jZ
 simp only[Act.put,jO,jX,jg];refine bU (i:=8) (v:=?v8) rfl aF aF aF aF rfl (fun _ _ _ h=>h) iW oQ ?hy8 ?aCf
 case hy8=>exact jZ
 simp only[Act.put,jO,jX,jg];refine bU (i:=9) (v:=?v9) rfl aF aF aF aF rfl (fun _ _ _ h=>h) iW oQ ?hy9 ?aCg
 case hy9=>exact jZ
 simp only[Act.put,jO,jX,jg];refine bU (i:=10) (v:=?v10) rfl aF aF aF aF rfl (fun _ _ _ h=>h) iW oQ ?ay4 ?ay5
 case ay4=>exact jZ
 simp only[Act.put,jO,jX,jg];refine bU (i:=11) (v:=?v11) rfl aF aF aF aF rfl (fun _ _ _ h=>h) iW oQ ?ay6 ?ay7
 case ay6=>exact jZ
 simp only[Act.put,jO,jX,jg];refine bU (i:=12) (v:=?v12) rfl aF aF aF aF rfl (fun _ _ _ h=>h) iW oQ ?ay8 ?ay9
 case ay8=>exact jZ
 simp only[Act.put,jO,jX,jg];refine bU (i:=13) (v:=?v13) rfl aF aF aF aF rfl (fun _ _ _ h=>h) iW oQ ?ay_ ?aza
 case ay_=>exact jZ
 simp only[Act.put,jO,jX,jg];refine bU (i:=14) (v:=?v14) rfl aF aF aF aF rfl (fun _ _ _ h=>h) iW oQ ?azb ?azc
 case azb=>exact jZ
 simp only[Act.put,jO,jX,jg];refine bU (i:=16) (v:=?v16) rfl aF aF aF aF rfl (fun _ _ _ h=>h) iW oQ ?azd ?aze
 case azd=>exact jZ
 simp only[Act.put,jO,jX,jg];refine bU (i:=17) (v:=?v17) rfl aF aF aF aF rfl (fun _ _ _ h=>h) iW oQ ?azf ?azg
 case azf=>exact jZ
 simp only[Act.put,jO,jX,jg];refine bU (i:=18) (v:=?v18) rfl aF aF aF aF rfl (fun _ _ _ h=>h) iW oQ ?azh ?azi
 case azh=>exact jZ
 simp only[Act.put,jO,jX,jg];refine bU (i:=19) (v:=?v19) rfl aF aF aF aF rfl (fun _ _ _ h=>h) iW oQ ?azj ?azk
 case azj=>intro x bJ;obtain⟨s1,s2,s3,s4,s5,s6⟩:=bJ;have lk:=HLW.out x s6;go_simp;try (with_reducible rfl)
 simp only[Act.put,jO,jX,jg];refine bU (i:=20) (v:=?v20) rfl aF aF aF aF rfl (fun _ _ _ h=>h) iW oQ ?azl ?azm
 case azl=>exact jZ
 simp only[Act.put,jO,jX,jg];refine last_one (i:=15) aF rfl ?_;intro K1 hK1;go_simp;refine(HSH.out _ (aN w)).mono ?_;rintro e x ⟨rfl,hx⟩;have uW:(fun x:World=>x.cell? ⟨g1,0,none⟩=some (.slice (some ⟨ub,0,none⟩) l.length l.length)/\x.cell? ⟨g2,0,none⟩=some (.slice (some ⟨g,o,none⟩) l.length c)/\x.cell? ⟨g2,1,none⟩=some (.map (some m))/\x.cell? ⟨ub,pk,none⟩=some (O E1)/\x.cell? ⟨ub,k,none⟩=some (O U1)/\Z w x) x:=⟨aQ hx oQ.1,aQ hx oQ.2.1,aQ hx oQ.2.2.1,aQ hx oQ.2.2.2.1,aQ hx oQ.2.2.2.2.1,(aN w).trans hx⟩;refine jE hK1 uW ?_;clear hK1 K1;refine last_one (i:=21) aF rfl ?_;intro K2 hK2;go_simp;refine(cP _).mono ?_;rintro e y ⟨rfl,hy⟩;have HS2:(fun x:World=>x.cell? ⟨g1,0,none⟩=some (.slice (some ⟨ub,0,none⟩) l.length l.length)/\x.cell? ⟨g2,0,none⟩=some (.slice (some ⟨g,o,none⟩) l.length c)/\x.cell? ⟨g2,1,none⟩=some (.map (some m))/\x.cell? ⟨ub,pk,none⟩=some (O E1)/\x.cell? ⟨ub,k,none⟩=some (O U1)/\Z w x) y:=⟨aQ hy uW.1,aQ hy uW.2.1,aQ hy uW.2.2.1,aQ hy uW.2.2.2.1,aQ hy uW.2.2.2.2.1,uW.2.2.2.2.2.trans (hy.mono uW.2.2.2.2.2.size)⟩;refine jE hK2 HS2 ?_;clear hK2 K2;refine bU (i:=22) (v:=?v22) rfl aF aF aF aF rfl (fun _ _ _ h=>h) iW HS2 ?azn ?azo
 case azn=>exact jZ
 simp only[Act.put,jO,jX,jg];refine bU (i:=23) (v:=?v23) rfl aF aF aF aF rfl (fun _ _ _ h=>h) iW HS2 ?azp ?azq
 case azp=>exact jZ
 simp only[Act.put,jO,jX,jg];refine last_one (i:=24) aF rfl ?_;intro K3 hK3;have y5:=HS2.2.2.2.2.1;have BY:=HS2.2.2.2.2.2;have y6:=jQ BY p3 f3;have HJ:Hid (QB WF m g o c g1 g2 ub l W (fun j=>D j\/j=k) (y.setCell ⟨ub,k,none⟩ (O N2))):=show QB WF m g o c g1 g2 ub l W (fun j=>D j\/j=k) (y.setCell ⟨ub,k,none⟩ (O N2))from
  ⟨(HI.out.dQ.trans (aH.of_below BY (fun j=>j=ub)) (fun _ _ h=>h)).setCell _ _ (.inl rfl),dI HS2.1 (.inl n1),dI HS2.2.1 (.inl n2),dI HS2.2.2.1 (.inl n2),⟨_,(HFN.out.1.below BY).set k N2,fun j hj=>by
   unfold Nf
   by_cases e:j=k
   ·rw[aJ e,e,HN2.out]
    exact⟨fun _=>rfl,fun h=>absurd (.inr rfl) h⟩
   ·rw[au e]
    exact⟨fun h=>(HFN.out.2 j hj).1 (h.elim id (fun h=>absurd h e)),fun h=>(HFN.out.2 j hj).2 (fun hd=>h (.inl hd))⟩⟩⟩
 have HC:Hid (aH (fun j=>j=ub) w (y.setCell ⟨ub,k,none⟩ (O N2))):=show aH (fun j=>j=ub) w (y.setCell ⟨ub,k,none⟩ (O N2))from(aH.of_below BY _).setCell _ _ (.inl rfl);go_simp;refine hK3.out _ _ (fun h=>absurd rfl h) (fun _=>?_);clear hK3 K3;refine aO aF ?_ _;go_wp2;go_end0
 exact⟨rfl,HJ.out,HC.out⟩
end
end Go.Proofs.YtdhifkbbjlhcaaaGreatDoor
