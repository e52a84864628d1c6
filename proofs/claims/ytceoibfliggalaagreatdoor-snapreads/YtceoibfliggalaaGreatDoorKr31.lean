/-
  TEXTS: TcD, TcE.
-/
import Derived.Test.YtceoibfliggalaaGreatDoorKr22
import Derived.Test.YtceoibfliggalaaGreatDoorKr30
import Derived.Test.YtceoibfliggalaaGreatDoorKr29
import Derived.Test.YtceoibfliggalaaGreatDoorKr14
import Derived.Deep.AppendLies
import Derived.Deep.DeepAppendWide
namespace Go.Proofs.YtceoibfliggalaaGreatDoor
open Go.RowKit Wd Tr Cg Ld Lg
theorem box_set {V W:World} {x g t:Nat} {cs:Array Value} {s:RS} (hx:x<g) (hb:V.heap[g]?=some (.cells cs t (0,0))) (hR:Rf W x s) (hC:Chg (fun k=>k=x) V W) (k:Nat) (v:Value) {cs':Array Value} (e:cs.setIfInBounds k v=cs'):
  (W.setCell ⟨g,k,none⟩ v).heap[g]?=some (.cells cs' t (0,0))∧Rf (W.setCell ⟨g,k,none⟩ v) x s∧Chg (fun k=>k=x∨k=g) V (W.setCell ⟨g,k,none⟩ v):=by
 have h1:W.heap[g]?=some (.cells cs t (0,0)):=(hC.block g (Array.getElem?_eq_some_iff.1 hb).1 (by omega)).trans hb
 refine⟨by rw [← e];exact heap_setCell_same W g k _ _ v h1,hR.other fun j hj=>Below.heap_setCell _ _ _ _ (show j≠g by omega),⟨hC.os,hC.tape,hC.output,Nat.le_trans hC.size (by simp [World.setCell]),fun i hi hne=>(Below.heap_setCell _ _ _ _ (show i≠g by omega)).trans (hC.block i hi (by omega))⟩⟩
theorem box_at {V W:World} {x g t:Nat} {cs:Array Value} (hx:x<g) (hb:V.heap[g]?=some (.cells cs t (0,0))) (hC:Chg (fun k=>k=x) V W):W.heap[g]?=some (.cells cs t (0,0)):=(hC.block g (Array.getElem?_eq_some_iff.1 hb).1 (by omega)).trans hb
abbrev acL (nm:ByteArray) (pa sh:Int) (cl:Bool) (us:Int):Array Value:= #[.string nm,.int .i64 pa,.int .i64 sh,.bool cl,.int .u64 us]
theorem num_need (b:Bool) (s:RS):(numF (needF b s)).2=needF b (numF s).2:=by cases b<;>rfl
theorem Rf.spoil {w:World} {x:Nat} {s:RS} (h:Rf w x s):(∃b,w.cell? ⟨x,1,none⟩=some (.bool b))∧w.frozen? ⟨x,1,none⟩=false∧Rf (w.setCell ⟨x,1,none⟩ (.bool true)) x none∧Chg (fun k=>k=x) w (w.setCell ⟨x,1,none⟩ (.bool true)):=by
 obtain⟨ao,m,c,b,hb,p2,p3,p4,_⟩:=h.blk
 exact⟨⟨b,cells_at hb rfl⟩,frozen_at hb,⟨ao,m,c,true,heap_setCell_same w x 1 _ _ (.bool true) hb,p2,p3,p4,by simp,nofun⟩,⟨rfl,rfl,rfl,by simp [World.setCell],fun i hi hne=>Below.heap_setCell _ _ _ _ hne⟩⟩
theorem clB_iff {n:Int} (hn: -9223372036854775808≤n∧n≤9223372036854775807):clB n=decide (n % 18446744073709551616≤1):=by
 unfold clB
 by_cases h:n % 18446744073709551616≤1
 ·have:n=0∨n=1:=by omega
  rcases this with rfl | rfl<;>decide
 ·have h0:n≠0:=by omega
  have h1:n≠1:=by omega
  simp [h0,h1,h]
set_option maxRecDepth 20000 in
set_option maxHeartbeats 2000000 in
theorem faccount_any {w:World} {x:Nat} {s:RS} (h:Rf w x s):Calls Tryz.prog 73 #[.pointer (some ⟨x,0,none⟩)] w fun e w'=>∃a:Ac,e=.returned (.agg (acL a.nm a.pa a.sh a.cl a.us))∧Rf w' x (acF s).2∧((acF s).2≠none→a=(acF s).1)∧Chg (fun k=>k=x) w w':=by
 have hxl:=h.lt
 obtain⟨W,hW⟩:∃W,w.alloc (.cells #[.string ⟨#[]⟩,.int .i64 0,.int .i64 0,.bool false,.int .u64 0] 52)=W:=⟨_,rfl⟩
 have bW:Below w.heap.size w W:=by rw [← hW];exact(Below.refl _ _).alloc (Nat.le_refl _) _
 have hzW:W.heap.size=w.heap.size+1:=by rw [← hW];simp
 have hG:W.heap[w.heap.size]?=some (.cells #[.string ⟨#[]⟩,.int .i64 0,.int .i64 0,.bool false,.int .u64 0] 52 (0,0)):=by rw [← hW];exact heap_alloc_new w _
 have hct:=fmany_any (h.other (W':=W) (fun k hk=>bW.block k (by omega))) (k:=1) (by omega)
 have hcp:=cnt_pos 1 s
 unfold acF acS
 obtain⟨q,hq⟩:∃q:Nat,(cntF 1 s).1=q:=⟨(cntF 1 s).1.toNat,by omega⟩
 have hqt:(cntF 1 s).1.toNat=q:=by omega
 rw [hq]at hct
 rw [hqt]
 clear hcp hq hqt h
 generalize (cntF 1 s).2=s1 at *
 have HBY:Hid (∀(V:World),Rf V x s1→_):=fun V hV=>ftake_any hV q
 unfold TakP at HBY
 generalize bytF q s1=r at *
 obtain⟨l,s2⟩:=r
 simp only at HBY ⊢
 have e4:numsF 4 s2=([(numF s2).1,(numF (numF s2).2).1,(numF (numF (numF s2).2).2).1,(numF (numF (numF (numF s2).2).2).2).1],(numF (numF (numF (numF s2).2).2).2).2):=rfl
 rw [e4]
 simp only [List.getD_cons_zero,List.getD_cons_succ]
 clear e4
 have HI2:Hid (∀(V:World),Rf V x s2→_):=fun V hV=>fint_any hV
 generalize numF s2=r2 at *
 obtain⟨n0,s3⟩:=r2
 simp only at HI2 ⊢
 have HI3:Hid (∀(V:World),Rf V x s3→_):=fun V hV=>fint_any hV
 generalize numF s3=r3 at *
 obtain⟨n1,s4⟩:=r3
 simp only at HI3 ⊢
 have HI4:Hid (∀(V:World),Rf V x s4→_):=fun V hV=>fword_any hV
 have hrg:=numF_rng s4
 unfold wrdV at HI4
 generalize numF s4=r4 at *
 obtain⟨n2,s5⟩:=r4
 simp only at HI4 hrg ⊢
 have HI5:Hid (∀(V:World) (b:Bool),Rf V x (needF b s5)→_):=fun V b hV=>fword_any hV
 unfold wrdV at HI5
 simp only [num_need]at HI5
 have HN5:Hid (∀b,needF b (numF s5).2≠none→(numF (needF b s5)).1=(numF s5).1):=fun b hb=>by cases b with | true=>rfl | false=>exact absurd rfl hb
 have HCB:Hid (clB n2=decide (n2 % 18446744073709551616≤1)):=clB_iff hrg
 have hce:decide (n2=1)=(n2 % 18446744073709551616==1):=by
  have h9:(n2=1)↔(n2 % 18446744073709551616=1):=by omega
  by_cases h:n2=1<;>simp [h]<;>omega
 have HCE:Hid (decide (n2=1)=(n2 % 18446744073709551616==1)):=hce
 clear hce
 clear hrg
 generalize n2 % 18446744073709551616=N at *
 generalize numF s5=r5 at *
 obtain⟨n3,s6⟩:=r5
 simp only at HI5 HN5 ⊢
 have HG:Hid _:=hG
 have HB:Hid _:=bW
 have HZ:Hid _:=hzW
 have HXL:Hid _:=hxl
 clear hG bW hzW hxl
 go_enter Tryz.func73,Tryz.ntmps73
 go_upto_region 2 with(first
  | (go_at_call 72;refine hct.mono ?_;rintro e w1 ⟨rfl,hR1,hC1⟩;have hby:=HBY.out w1 hR1;have HC1:Hid _:=hC1;clear hC1 hR1)
  | (go_at_call 70;refine hby.mono ?_;rintro e w2 ⟨ao,c2,rfl,hB2,hR2,hC2⟩;have hcv:=conv_any (c:=c2) hB2;have HR2:Hid _:=hR2;have HC2:Hid _:=hC2;clear hC2 hR2 hB2))
 obtain⟨W3,hW3⟩:∃W3,w2.alloc (.cells (acL ⟨l.toArray⟩ 0 0 false 0) 52)=W3:=⟨_,rfl⟩
 have b3:Below w2.heap.size w2 W3:=by rw [← hW3];exact(Below.refl _ _).alloc (Nat.le_refl _) _
 have hz3:W3.heap.size=w2.heap.size+1:=by rw [← hW3];simp
 have hg3:W3.heap[w2.heap.size]?=some (.cells (acL ⟨l.toArray⟩ 0 0 false 0) 52 (0,0)):=by rw [← hW3];exact heap_alloc_new w2 _
 have zw:=HZ.out
 have z1:W.heap.size≤w1.heap.size:=HC1.out.size
 have z2:w1.heap.size≤w2.heap.size:=HC2.out.size
 have zx:=HXL.out
 have hC3:Chg (fun k=>k=x) W W3:=(HC1.out.trans HC2.out (fun _ _ e=>e)).trans (Chg.of_below b3 _) (fun _ _ e=>e)
 have hR3:Rf W3 x s2:=HR2.out.other (fun k hk=>b3.block k (by omega))
 obtain⟨g,hg⟩:∃g,w2.heap.size=g:=⟨_,rfl⟩
 rw [hW3,hg]
 rw [hg]at hg3
 have hxg:x<g:=by omega
 have hwg:w.heap.size<g:=by omega
 have HBX:Hid _:=hg3
 have HR3:Hid _:=hR3
 have HC3:Hid (Chg (fun k=>k=x∨k=g) W W3):=hC3.mono (fun _ _ e=>.inl e)
 have HFL:Hid (∀(V V':World),x<g→True):=fun _ _ _=>trivial
 clear hW3 b3 hz3 hg3 hC3 hR3 hg HC1 HC2 HR2 hby hct hcv z1 z2 HFL
 go_upto_region 3 with(go_at_call 71;refine(HI2.out _ HR3.out).mono ?_;rintro e w4 ⟨rfl,hR4,hC4⟩;have hb4:=box_at hxg HBX.out hC4;have cg:w4.cell? ⟨g,1,none⟩=some (.int .i64 0):=cells_at hb4 rfl;have fg:w4.frozen? ⟨g,1,none⟩=false:=frozen_at hb4;have HR4:Hid _:=hR4;have HC4:Hid _:=hC4;clear hR4 hC4 hb4)
 obtain⟨hb,hr,hc⟩:=box_set hxg HBX.out HR4.out HC4.out 1 (.int .i64 n0) (cs':=acL ⟨l.toArray⟩ n0 0 false 0) rfl
 obtain⟨V4,hV⟩:∃V,w4.setCell ⟨g,1,none⟩ (.int .i64 n0)=V:=⟨_,rfl⟩
 rw [hV]at hb hr hc ⊢
 have HBX4:Hid (V4.heap[g]?=some (.cells (acL ⟨l.toArray⟩ n0 0 false 0) 52 (0,0))):=hb
 have HRX4:Hid _:=hr
 have HCX4:Hid (Chg (fun k=>k=x∨k=g) W V4):=HC3.out.trans hc (fun _ _ e=>e)
 clear hb hr hc hV cg fg
 go_upto_region 4 with(go_at_call 71;refine(HI3.out _ HRX4.out).mono ?_;rintro e w5 ⟨rfl,hR4,hC4⟩;have hb4:=box_at hxg HBX4.out hC4;have cg:w5.cell? ⟨g,2,none⟩=some (.int .i64 0):=cells_at hb4 rfl;have fg:w5.frozen? ⟨g,2,none⟩=false:=frozen_at hb4;have HR5:Hid _:=hR4;have HC5:Hid _:=hC4;clear hR4 hC4 hb4)
 obtain⟨hb,hr,hc⟩:=box_set hxg HBX4.out HR5.out HC5.out 2 (.int .i64 n1) (cs':=acL ⟨l.toArray⟩ n0 n1 false 0) rfl
 obtain⟨V5,hV⟩:∃V,w5.setCell ⟨g,2,none⟩ (.int .i64 n1)=V:=⟨_,rfl⟩
 rw [hV]at hb hr hc ⊢
 have HBX5:Hid (V5.heap[g]?=some (.cells (acL ⟨l.toArray⟩ n0 n1 false 0) 52 (0,0))):=hb
 have HRX5:Hid _:=hr
 have HCX5:Hid (Chg (fun k=>k=x∨k=g) W V5):=HCX4.out.trans hc (fun _ _ e=>e)
 clear hb hr hc hV cg fg
 go_upto_region 5 with(go_at_call 116;refine(HI4.out _ HRX5.out).mono ?_;rintro e w6 ⟨rfl,hR4,hC4⟩;have HR6:Hid _:=hR4;have HC6:Hid _:=hC4;clear hR4 hC4)
 have HB6:Hid _:=box_at hxg HBX5.out HC6.out
 have HCX6:Hid (Chg (fun k=>k=x∨k=g) W w6):=HCX5.out.trans HC6.out (fun _ _ e=>.inl e)
 clear HC6 HBX5 HRX5 HCX5 HBX4 HRX4 HCX4 HR4 HR5 HC4 HC5 HI2 HI3 HI4
 go_upto_if 20 with fail
 go_cut [] (fun y=>Rf y x (needF (clB n2) s5)∧Chg (fun k=>k=x) w6 y)
 case first=>
  by_cases hN:N≤1
  ·have hN':¬N>1:=by omega
   have HE:Hid (clB n2=true):=HCB.out.trans (decide_eq_true hN)
   go_wp2
   go_meet
   rw [HE.out]
   exact⟨HR6.out,Chg.refl _ _⟩
  ·have hN':N>1:=by omega
   have HE:Hid (clB n2=false):=HCB.out.trans (decide_eq_false hN)
   obtain⟨⟨b,cb⟩,fb,hr,hc⟩:=HR6.out.spoil
   have HRS:Hid _:=hr
   have HCS:Hid _:=hc
   clear hr hc
   go_wp2
   go_meet
   rw [HE.out]
   exact⟨HRS.out,HCS.out⟩
 case rest=>
 obtain⟨hR7,hC7⟩:=hcut
 obtain⟨V,hV⟩:∃V:World,V=wc:=⟨_,rfl⟩
 rw [← hV]at hR7 hC7
 rw [← hV]
 clear hV
 have hb7:=box_at hxg HB6.out hC7
 have HC7:Hid (Chg (fun k=>k=x∨k=g) W V):=HCX6.out.trans hC7 (fun _ _ e=>.inl e)
 have HR7:Hid _:=hR7
 have cg:V.cell? ⟨g,3,none⟩=some (.bool false):=cells_at hb7 rfl
 have fg:V.frozen? ⟨g,3,none⟩=false:=frozen_at hb7
 have HB7:Hid _:=hb7
 clear hR7 hC7 HB6 HCX6 HR6 hb7
 obtain⟨B,hcb⟩:∃B,clB n2=B:=⟨_,rfl⟩
 rw [hcb]at HR7
 have HCE2:Hid (clB n2=B):=hcb
 clear hcb
 go_upto_region 8 with fail
 obtain⟨hb,hr,hc⟩:=box_set hxg HB7.out HR7.out (Chg.refl _ V) 3 (.bool (N==1)) (cs':=acL ⟨l.toArray⟩ n0 n1 (N==1) 0) rfl
 obtain⟨V8,hV⟩:∃V8,V.setCell ⟨g,3,none⟩ (.bool (N==1))=V8:=⟨_,rfl⟩
 rw [hV]at hb hr hc ⊢
 have HBX8:Hid (V8.heap[g]?=some (.cells (acL ⟨l.toArray⟩ n0 n1 (N==1) 0) 52 (0,0))):=hb
 have HRX8:Hid _:=hr
 have HCX8:Hid (Chg (fun k=>k=x∨k=g) W V8):=HC7.out.trans hc (fun _ _ e=>e)
 clear hb hr hc hV cg fg HB7 HR7 HC7
 have hwz:∃us:Int,(numF (needF B s5)).1 % 18446744073709551616=us:=⟨_,rfl⟩
 obtain⟨us,hus⟩:=hwz
 have hi5:=HI5.out V8 B HRX8.out
 have hn5:=HN5.out B
 rw [hus]at hi5
 have HUS:Hid (needF B s6≠none→us=n3 % 18446744073709551616):=fun h=>by rw [← hus,hn5 h]
 clear hus hn5 HI5 HN5
 go_upto_region 9 with(go_at_call 116;refine hi5.mono ?_;rintro e w9 ⟨rfl,hR4,hC4⟩;have hb4:=box_at hxg HBX8.out hC4;have cg:w9.cell? ⟨g,4,none⟩=some (.int .u64 0):=cells_at hb4 rfl;have fg:w9.frozen? ⟨g,4,none⟩=false:=frozen_at hb4;have HR9:Hid _:=hR4;have HC9:Hid _:=hC4;clear hR4 hC4 hb4)
 obtain⟨hb,hr,hc⟩:=box_set hxg HBX8.out HR9.out HC9.out 4 (.int .u64 us) (cs':=acL ⟨l.toArray⟩ n0 n1 (N==1) us) rfl
 obtain⟨V9,hV⟩:∃V9,w9.setCell ⟨g,4,none⟩ (.int .u64 us)=V9:=⟨_,rfl⟩
 rw [hV]at hb hr hc ⊢
 have HRX9:Hid _:=hr
 have hC9:Chg (fun k=>k=x∨k=g) W V9:=HCX8.out.trans hc (fun _ _ e=>e)
 have hres:V9.heap[w.heap.size]?=some (.cells #[.string ⟨#[]⟩,.int .i64 0,.int .i64 0,.bool false,.int .u64 0] 52 (0,0)):=(hC9.block _ (by omega) (by omega)).trans HG.out
 have d0:V9.cell? ⟨g,0,none⟩=some (.string ⟨l.toArray⟩):=cells_at hb rfl
 have d1:V9.cell? ⟨g,1,none⟩=some (.int .i64 n0):=cells_at hb rfl
 have d2:V9.cell? ⟨g,2,none⟩=some (.int .i64 n1):=cells_at hb rfl
 have d3:V9.cell? ⟨g,3,none⟩=some (.bool (N==1)):=cells_at hb rfl
 have d4:V9.cell? ⟨g,4,none⟩=some (.int .u64 us):=cells_at hb rfl
 have HCX9:Hid _:=hC9
 have HRES:Hid _:=hres
 clear hb hr hc hV cg fg hC9 hres HBX8 HRX8 HCX8 HR9 HC9 hi5
 go_wp2_with (refine wpList_store_row rfl 52 (.tmp 2) (.tmp 30) rfl w.heap.size (acL ⟨l.toArray⟩ n0 n1 (N==1) us) (by simp [Act.eval]) (by simp [Act.eval]) 52 _ HRES.out Tryz.infAc rfl (by simp [Value.oneCell']) ?_)
 refine ret_ac Tryz.results73 rfl rfl HRES.out rfl ⟨⟨⟨l.toArray⟩,n0,n1,(N==1),us⟩,rfl,by rw [HCE2.out];exact HRX9.out.other (fun k hk=>setRow_other _ _ _ _ (show k≠w.heap.size by omega)),fun h=>?_,?_⟩
 ·rw [HCE2.out]at h
  rw [HCE.out,HUS.out h]
 ·refine chg_row (K:=fun k=>k=x) ?_ (.inr (Nat.le_refl _)) _
  exact⟨HCX9.out.os.trans HB.out.os,HCX9.out.tape.trans HB.out.tape,HCX9.out.output.trans HB.out.output,Nat.le_trans HB.out.size HCX9.out.size,fun i hi hne=>(HCX9.out.block i (by omega) (by omega)).trans (HB.out.block i hi)⟩
end Go.Proofs.YtceoibfliggalaaGreatDoor
namespace Go.Proofs.YtceoibfliggalaaGreatDoor
open Go Go.RowKit Wd Tr Cg Ld Lg
theorem step_append_wide {P:Program} {w:World} {ops:Array Oper} {o:Oper} {a:Act} {K:Act→World→Prop} {Q:Exit→Act→World→Prop} {E:Prop} (hgd:o.guard=none) (s x:Operand) (t:TypeId)
  (ho:o.op=.call {callee:=.builtin .append,args:= #[s,x],argTypes:= #[t,t]})
  (base:Nat) (e:TypeId) (i:TypeInfo) (z:Value) (size bytes:Nat) (ht:P.underlying t=some (.slice e)) (hi:P.info? e=some i) (hz:i.zero=some z)
  (hsize:i.size=size) (hby:i.bytes=bytes) (hzs:z.cells.size=size) (hsz:0<size)
  (v:Value) (n:Nat) (xs:List Value) (hs:a.eval s=v) (hown:w.ownsRow base e size v n xs)
  (ad:Addr) (m c:Nat) (news:List Value) (hx:a.eval x=.slice (some ad) m c) (hl:news.length=m*size) (hnews:∀j u,news[j]?=some u→w.cell? (ad.add j)=some u) (h1:∀u∈news,u.oneCell'=true)
  (hm:0<m) (h63:n+m≤maxLen) (hbytes:((n+m)+(n+m) / 4+192)*bytes≤281474976710656) (hbase:base≤w.heap.size)
  (h:∀g cap w',w'.ownsRow base e size (.slice (some ⟨g,0,none⟩) (n+m) cap) (n+m) (xs++news)→w.grownBy w' v.ownBlock→K (a.put o.dst (.slice (some ⟨g,0,none⟩) (n+m) cap)) w'):
  if Region.wanted o (yielded ops a.tmps)=true then Oper.wp P o a w K Q else E:=by
 have hw:Region.wanted o (yielded ops a.tmps)=true:=by simp [Region.wanted,hgd]
 rw [if_pos hw]
 refine wp_append_own_wide w s x t ho base e i z size bytes ht hi hz hsize hby hzs hsz v n xs hs hown ad m c news hx hl hnews h1 h63 hbytes hbase fun v' w' h2 h3 _=>?_
 rcases h2.2 with⟨_,h0⟩ | ⟨g,cap,cur,rfl,_⟩
 ·omega
 ·exact h g cap w' h2 h3
abbrev jbL (n0 n1 n2 n3 n4 n5 n6:Int) (v:Value):Array Value:= #[.int .i64 n0,.int .i64 n1,.int .i64 n2,.int .i64 n3,.int .i64 n4,.int .i64 n5,.int .i64 n6,v]
theorem numsF7 (s:RS):numsF 7 s=([(numF s).1,(numF (numF s).2).1,(numF (numF (numF s).2).2).1,(numF (numF (numF (numF s).2).2).2).1,(numF (numF (numF (numF (numF s).2).2).2).2).1,(numF (numF (numF (numF (numF (numF s).2).2).2).2).2).1,(numF (numF (numF (numF (numF (numF (numF s).2).2).2).2).2).2).1],(numF (numF (numF (numF (numF (numF (numF s).2).2).2).2).2).2).2):=rfl
def FJobP (x:Nat) (s0:RS) (w:World) (e:Ending) (w':World):Prop:=∃v,e=.returned (.agg (jbL (jbF s0).1.ac (jbF s0).1.nd (jbF s0).1.lm (jbF s0).1.sb (jbF s0).1.st (jbF s0).1.sr (jbF s0).1.en v))∧w'.ownsRow w.heap.size 3 1 v (jbF s0).1.set.length ((jbF s0).1.set.map (Value.int .i64))∧Rf w' x (jbF s0).2∧Chg (fun k=>k=x) w w'
set_option maxRecDepth 20000 in
set_option maxHeartbeats 4000000 in
theorem fjob_any {w:World} {x:Nat} {s0:RS} (h:Rf w x s0):Calls Tryz.prog 74 #[.pointer (some ⟨x,0,none⟩)] w (FJobP x s0 w):=by
 have hxl:=h.lt
 unfold FJobP jbF jbS
 rw [numsF7]
 simp only [List.getD_cons_zero,List.getD_cons_succ]
 have HI0:Hid (∀(V:World),Rf V x s0→_):=fun V hV=>fint_any hV
 generalize numF s0=r0 at *
 obtain⟨n0,s1⟩:=r0
 simp only at HI0 ⊢
 have HI1:Hid (∀(V:World),Rf V x s1→_):=fun V hV=>fint_any hV
 generalize numF s1=r1 at *
 obtain⟨n1,s2⟩:=r1
 simp only at HI1 ⊢
 have HI2:Hid (∀(V:World),Rf V x s2→_):=fun V hV=>fint_any hV
 generalize numF s2=r2 at *
 obtain⟨n2,s3⟩:=r2
 simp only at HI2 ⊢
 have HI3:Hid (∀(V:World),Rf V x s3→_):=fun V hV=>fint_any hV
 generalize numF s3=r3 at *
 obtain⟨n3,s4⟩:=r3
 simp only at HI3 ⊢
 have HI4:Hid (∀(V:World),Rf V x s4→_):=fun V hV=>fint_any hV
 generalize numF s4=r4 at *
 obtain⟨n4,s5⟩:=r4
 simp only at HI4 ⊢
 have HI5:Hid (∀(V:World),Rf V x s5→_):=fun V hV=>fint_any hV
 generalize numF s5=r5 at *
 obtain⟨n5,s6⟩:=r5
 simp only at HI5 ⊢
 have HI6:Hid (∀(V:World),Rf V x s6→_):=fun V hV=>fint_any hV
 generalize numF s6=r6 at *
 obtain⟨n6,s7⟩:=r6
 simp only at HI6 ⊢
 have hcp:=cnt_pos 8 s7
 have hcl:=cnt_le 8 s7
 have HMA:Hid (∀(V:World),Rf V x s7→_):=fun V hV=>fmany_any (k:=8) hV (by omega)
 obtain⟨q,hq⟩:∃q:Nat,(cntF 8 s7).1=q:=⟨(cntF 8 s7).1.toNat,by omega⟩
 have hqt:(cntF 8 s7).1.toNat=q:=by omega
 rw [hq]at HMA hcl
 rw [hqt]
 clear hcp hq hqt
 generalize (cntF 8 s7).2=s8 at *
 have hqb:q*8≤140737488355328∨True:=.inr trivial
 clear hqb
 obtain⟨W,hW⟩:∃W,w.alloc (.cells (jbL 0 0 0 0 0 0 0 (.slice none 0 0)) 55)=W:=⟨_,rfl⟩
 have bW:Below w.heap.size w W:=by rw [← hW];exact(Below.refl _ _).alloc (Nat.le_refl _) _
 have hzW:W.heap.size=w.heap.size+1:=by rw [← hW];simp
 have hG:W.heap[w.heap.size]?=some (.cells (jbL 0 0 0 0 0 0 0 (.slice none 0 0)) 55 (0,0)):=by rw [← hW];exact heap_alloc_new w _
 have HG:Hid _:=hG
 have HB:Hid _:=bW
 have HZ:Hid _:=hzW
 have HRW:Hid (Rf W x s0):=h.other (fun k hk=>bW.block k (by omega))
 have HXL:Hid _:=hxl
 clear h hG bW hzW hxl
 go_enter Tryz.func74,Tryz.ntmps74
 go_upto_region 1 with fail
 try rw [hW]
 clear hW
 go_upto_region 2 with fail
 obtain⟨V3,hV3⟩:∃V3,W.alloc (.cells (jbL 0 0 0 0 0 0 0 (.slice none 0 0)) 55)=V3:=⟨_,rfl⟩
 have b3:Below W.heap.size W V3:=by rw [← hV3];exact(Below.refl _ _).alloc (Nat.le_refl _) _
 have hz3:V3.heap.size=W.heap.size+1:=by rw [← hV3];simp
 have hg3:V3.heap[W.heap.size]?=some (.cells (jbL 0 0 0 0 0 0 0 (.slice none 0 0)) 55 (0,0)):=by rw [← hV3];exact heap_alloc_new W _
 have hzW:=HZ.out
 have hxl:=HXL.out
 have HRX3:Hid (Rf V3 x s0):=HRW.out.other (fun k hk=>b3.block k (by omega))
 have HCX3:Hid (Chg (fun k=>k=x∨k=W.heap.size) W V3):=Chg.of_below b3 _
 rw [hV3]
 obtain⟨g,hg⟩:∃g,W.heap.size=g:=⟨_,rfl⟩
 rw [hg]at hg3 HCX3 ⊢
 have HBX3:Hid _:=hg3
 have hxg:x<g:=by omega
 have hwg:w.heap.size<g:=by omega
 have HZ3:Hid (V3.heap.size=g+1):=by show _=_;omega
 clear hV3 hg3 hz3 hzW hg b3
 go_upto_region 3 with(go_at_call 71;refine(HI0.out _ HRX3.out).mono ?_;rintro e w4 ⟨rfl,hR4,hC4⟩;have hb4:=box_at hxg HBX3.out hC4;have cg:w4.cell? ⟨g,0,none⟩=some (.int .i64 0):=cells_at hb4 rfl;have fg:w4.frozen? ⟨g,0,none⟩=false:=frozen_at hb4;have HR4:Hid _:=hR4;have HC4:Hid _:=hC4;clear hR4 hC4 hb4)
 obtain⟨hb,hr,hc⟩:=box_set hxg HBX3.out HR4.out HC4.out 0 (.int .i64 n0) (cs':=jbL n0 0 0 0 0 0 0 (.slice none 0 0)) rfl
 obtain⟨V4,hV⟩:∃V,w4.setCell ⟨g,0,none⟩ (.int .i64 n0)=V:=⟨_,rfl⟩
 rw [hV]at hb hr hc ⊢
 have HBX4:Hid (V4.heap[g]?=some (.cells (jbL n0 0 0 0 0 0 0 (.slice none 0 0)) 55 (0,0))):=hb
 have HRX4:Hid _:=hr
 have HCX4:Hid (Chg (fun k=>k=x∨k=g) W V4):=HCX3.out.trans hc (fun _ _ e=>e)
 clear hb hr hc hV cg fg HBX3 HRX3 HCX3 HR4 HC4 HI0
 go_upto_region 4 with(go_at_call 71;refine(HI1.out _ HRX4.out).mono ?_;rintro e w5 ⟨rfl,hR4,hC4⟩;have hb4:=box_at hxg HBX4.out hC4;have cg:w5.cell? ⟨g,1,none⟩=some (.int .i64 0):=cells_at hb4 rfl;have fg:w5.frozen? ⟨g,1,none⟩=false:=frozen_at hb4;have HR5:Hid _:=hR4;have HC5:Hid _:=hC4;clear hR4 hC4 hb4)
 obtain⟨hb,hr,hc⟩:=box_set hxg HBX4.out HR5.out HC5.out 1 (.int .i64 n1) (cs':=jbL n0 n1 0 0 0 0 0 (.slice none 0 0)) rfl
 obtain⟨V5,hV⟩:∃V,w5.setCell ⟨g,1,none⟩ (.int .i64 n1)=V:=⟨_,rfl⟩
 rw [hV]at hb hr hc ⊢
 have HBX5:Hid (V5.heap[g]?=some (.cells (jbL n0 n1 0 0 0 0 0 (.slice none 0 0)) 55 (0,0))):=hb
 have HRX5:Hid _:=hr
 have HCX5:Hid (Chg (fun k=>k=x∨k=g) W V5):=HCX4.out.trans hc (fun _ _ e=>e)
 clear hb hr hc hV cg fg HBX4 HRX4 HCX4 HR5 HC5 HI1
 go_upto_region 5 with(go_at_call 71;refine(HI2.out _ HRX5.out).mono ?_;rintro e w6 ⟨rfl,hR4,hC4⟩;have hb4:=box_at hxg HBX5.out hC4;have cg:w6.cell? ⟨g,2,none⟩=some (.int .i64 0):=cells_at hb4 rfl;have fg:w6.frozen? ⟨g,2,none⟩=false:=frozen_at hb4;have HR6:Hid _:=hR4;have HC6:Hid _:=hC4;clear hR4 hC4 hb4)
 obtain⟨hb,hr,hc⟩:=box_set hxg HBX5.out HR6.out HC6.out 2 (.int .i64 n2) (cs':=jbL n0 n1 n2 0 0 0 0 (.slice none 0 0)) rfl
 obtain⟨V6,hV⟩:∃V,w6.setCell ⟨g,2,none⟩ (.int .i64 n2)=V:=⟨_,rfl⟩
 rw [hV]at hb hr hc ⊢
 have HBX6:Hid (V6.heap[g]?=some (.cells (jbL n0 n1 n2 0 0 0 0 (.slice none 0 0)) 55 (0,0))):=hb
 have HRX6:Hid _:=hr
 have HCX6:Hid (Chg (fun k=>k=x∨k=g) W V6):=HCX5.out.trans hc (fun _ _ e=>e)
 clear hb hr hc hV cg fg HBX5 HRX5 HCX5 HR6 HC6 HI2
 go_upto_region 6 with(go_at_call 71;refine(HI3.out _ HRX6.out).mono ?_;rintro e w7 ⟨rfl,hR4,hC4⟩;have hb4:=box_at hxg HBX6.out hC4;have cg:w7.cell? ⟨g,3,none⟩=some (.int .i64 0):=cells_at hb4 rfl;have fg:w7.frozen? ⟨g,3,none⟩=false:=frozen_at hb4;have HR7:Hid _:=hR4;have HC7:Hid _:=hC4;clear hR4 hC4 hb4)
 obtain⟨hb,hr,hc⟩:=box_set hxg HBX6.out HR7.out HC7.out 3 (.int .i64 n3) (cs':=jbL n0 n1 n2 n3 0 0 0 (.slice none 0 0)) rfl
 obtain⟨V7,hV⟩:∃V,w7.setCell ⟨g,3,none⟩ (.int .i64 n3)=V:=⟨_,rfl⟩
 rw [hV]at hb hr hc ⊢
 have HBX7:Hid (V7.heap[g]?=some (.cells (jbL n0 n1 n2 n3 0 0 0 (.slice none 0 0)) 55 (0,0))):=hb
 have HRX7:Hid _:=hr
 have HCX7:Hid (Chg (fun k=>k=x∨k=g) W V7):=HCX6.out.trans hc (fun _ _ e=>e)
 clear hb hr hc hV cg fg HBX6 HRX6 HCX6 HR7 HC7 HI3
 go_upto_region 7 with(go_at_call 71;refine(HI4.out _ HRX7.out).mono ?_;rintro e w8 ⟨rfl,hR4,hC4⟩;have hb4:=box_at hxg HBX7.out hC4;have cg:w8.cell? ⟨g,4,none⟩=some (.int .i64 0):=cells_at hb4 rfl;have fg:w8.frozen? ⟨g,4,none⟩=false:=frozen_at hb4;have HR8:Hid _:=hR4;have HC8:Hid _:=hC4;clear hR4 hC4 hb4)
 obtain⟨hb,hr,hc⟩:=box_set hxg HBX7.out HR8.out HC8.out 4 (.int .i64 n4) (cs':=jbL n0 n1 n2 n3 n4 0 0 (.slice none 0 0)) rfl
 obtain⟨V8,hV⟩:∃V,w8.setCell ⟨g,4,none⟩ (.int .i64 n4)=V:=⟨_,rfl⟩
 rw [hV]at hb hr hc ⊢
 have HBX8:Hid (V8.heap[g]?=some (.cells (jbL n0 n1 n2 n3 n4 0 0 (.slice none 0 0)) 55 (0,0))):=hb
 have HRX8:Hid _:=hr
 have HCX8:Hid (Chg (fun k=>k=x∨k=g) W V8):=HCX7.out.trans hc (fun _ _ e=>e)
 clear hb hr hc hV cg fg HBX7 HRX7 HCX7 HR8 HC8 HI4
 go_upto_region 8 with(go_at_call 71;refine(HI5.out _ HRX8.out).mono ?_;rintro e w9 ⟨rfl,hR4,hC4⟩;have hb4:=box_at hxg HBX8.out hC4;have cg:w9.cell? ⟨g,5,none⟩=some (.int .i64 0):=cells_at hb4 rfl;have fg:w9.frozen? ⟨g,5,none⟩=false:=frozen_at hb4;have HR9:Hid _:=hR4;have HC9:Hid _:=hC4;clear hR4 hC4 hb4)
 obtain⟨hb,hr,hc⟩:=box_set hxg HBX8.out HR9.out HC9.out 5 (.int .i64 n5) (cs':=jbL n0 n1 n2 n3 n4 n5 0 (.slice none 0 0)) rfl
 obtain⟨V9,hV⟩:∃V,w9.setCell ⟨g,5,none⟩ (.int .i64 n5)=V:=⟨_,rfl⟩
 rw [hV]at hb hr hc ⊢
 have HBX9:Hid (V9.heap[g]?=some (.cells (jbL n0 n1 n2 n3 n4 n5 0 (.slice none 0 0)) 55 (0,0))):=hb
 have HRX9:Hid _:=hr
 have HCX9:Hid (Chg (fun k=>k=x∨k=g) W V9):=HCX8.out.trans hc (fun _ _ e=>e)
 clear hb hr hc hV cg fg HBX8 HRX8 HCX8 HR9 HC9 HI5
 go_upto_region 9 with(go_at_call 71;refine(HI6.out _ HRX9.out).mono ?_;rintro e w10 ⟨rfl,hR4,hC4⟩;have hb4:=box_at hxg HBX9.out hC4;have cg:w10.cell? ⟨g,6,none⟩=some (.int .i64 0):=cells_at hb4 rfl;have fg:w10.frozen? ⟨g,6,none⟩=false:=frozen_at hb4;have HR10:Hid _:=hR4;have HC10:Hid _:=hC4;clear hR4 hC4 hb4)
 obtain⟨hb,hr,hc⟩:=box_set hxg HBX9.out HR10.out HC10.out 6 (.int .i64 n6) (cs':=jbL n0 n1 n2 n3 n4 n5 n6 (.slice none 0 0)) rfl
 obtain⟨V10,hV⟩:∃V,w10.setCell ⟨g,6,none⟩ (.int .i64 n6)=V:=⟨_,rfl⟩
 rw [hV]at hb hr hc ⊢
 have HBX10:Hid (V10.heap[g]?=some (.cells (jbL n0 n1 n2 n3 n4 n5 n6 (.slice none 0 0)) 55 (0,0))):=hb
 have HRX10:Hid _:=hr
 have HCX10:Hid (Chg (fun k=>k=x∨k=g) W V10):=HCX9.out.trans hc (fun _ _ e=>e)
 clear hb hr hc hV cg fg HBX9 HRX9 HCX9 HR10 HC10 HI6
 go_upto_region 10 with(go_at_call 72;refine(HMA.out _ HRX10.out).mono ?_;rintro e w11 ⟨rfl,hR4,hC4⟩;have HR11:Hid _:=hR4;have HC11:Hid _:=hC4;clear hR4 hC4)
 have hb11:=box_at hxg HBX10.out HC11.out
 have HC11':Hid (Chg (fun k=>k=x∨k=g) W w11):=HCX10.out.trans HC11.out (fun _ _ e=>.inl e)
 have hfew:lenF s8≤140737488355328:=by
  obtain⟨_,m,_,_,_,_,_,h4,h5,h6⟩:=HR11.out.blk
  cases s8 with
  | none=>exact Nat.zero_le _
  | some r=>show r.length≤_;rw [← (h6 r rfl).1];exact h4
 have hqb:q*8≤140737488355328:=by omega
 have HB11:Hid _:=hb11
 obtain⟨i0,hi0,hz00,hz01,hz02⟩:=info_parts Tryz.infIz
 have hgw:g<w11.heap.size:=(Array.getElem?_eq_some_iff.1 hb11).1
 have HGW:Hid _:=hgw
 clear hfew hcl hb11 hgw HBX10 HRX10 HCX10 HC11 HMA
 go_wp2
 go_loopg [5] q (fun gk pk wr=>∃(i:Nat) (v:Value),i+gk=q∧pk=.int .i64 i∧wr.heap[g]?=some (.cells (jbL n0 n1 n2 n3 n4 n5 n6 v) 55 (0,0))∧wr.ownsRow (g+1) 3 1 v i ((numsF i s8).1.map (Value.int .i64))∧Rf wr x (numsF i s8).2∧Chg (fun k=>k=x∨g≤k) W wr)
 case atStart=>exact⟨0,.slice none 0 0,by omega,rfl,HB11.out,World.ownsRow_nil ..,HR11.out,HC11'.out.mono (fun _ _ e=>e.imp id (fun e=>by omega))⟩
 case round=>
  obtain⟨i,v,hi,rfl,hbx,hown,hRi,hCi⟩:=hrel
  by_cases hlt:i<q
  ·have hlt':(i:Int)<q:=by omega
   have hsn:=numsF_snoc i s8
   have hln:=numsF_len i s8
   have hnu:=fint_any (Rf.other (W':=wr.drew) hRi (fun k hk=>rfl))
   generalize numsF i s8=p at *
   obtain⟨l,t⟩:=p
   simp only at hown hRi hsn hln hnu
   generalize numF t=p2 at *
   obtain⟨n,t2⟩:=p2
   simp only at hsn hnu
   have HNU:Hid _:=hnu
   have HSN:Hid _:=hsn
   have HBX:Hid _:=hbx
   have HOW:Hid _:=hown
   have HCI:Hid _:=hCi
   clear hbx hown hRi hCi hsn hnu hln
   go_upto_region 13 with fail
   refine wp_region_last (S:=(fun y:World=>y.heap[g]?=some (.cells (jbL n0 n1 n2 n3 n4 n5 n6 v) 55 (0,0)))) (L:=7) (by kernel_rfl) ?_
   have HS0:(fun y:World=>y.heap[g]?=some (.cells (jbL n0 n1 n2 n3 n4 n5 n6 v) 55 (0,0))) wr.drew:=HBX.out
   have HF:Hid (∀xx:World,(fun y:World=>y.heap[g]?=some (.cells (jbL n0 n1 n2 n3 n4 n5 n6 v) 55 (0,0))) xx→xx.cell? ⟨g,7,none⟩=some v∧True):=fun xx hSx=>⟨cells_at (show xx.heap[g]?=_ from hSx) rfl,trivial⟩
   refine tc [0,7] 0 HS0 (h:=?_)
   refine tc [1,7] 1 HS0 (h:=?_)
   refine tc [2,7] 2 HS0 (h:=?_)
   refine last_one (i:=3) (by kernel_rfl) rfl ?_
   intro K hK
   go_simp
   go_at_call 71
   refine(show Calls _ _ _ _ _ from HNU.out).mono ?_
   rintro e w4 ⟨rfl,hR4,hC4⟩
   have hb4:w4.heap[g]?=some (.cells (jbL n0 n1 n2 n3 n4 n5 n6 v) 55 (0,0)):=box_at hxg (show wr.drew.heap[g]?=_ from HBX.out) hC4
   have ho4:w4.ownsRow (g+1) 3 1 v i (l.map (Value.int .i64)):=row_stand HOW.out (fun k hk=>by have:=World.ownsRow.lt HOW.out k hk;exact hC4.block k this.2 (by omega))
   have HS4:(fun y:World=>y.heap[g]?=some (.cells (jbL n0 n1 n2 n3 n4 n5 n6 v) 55 (0,0))) w4:=hb4
   refine hK.out _ _ (fun _=>HS4) (fun _=>?_)
   clear hK K HS0 HF
   refine last_one (i:=4) (by kernel_rfl) rfl ?_
   intro K hK
   go_simp
   obtain⟨w5,hw5⟩:∃w5,w4.alloc (.cells #[.int .i64 n] 3)=w5:=⟨_,rfl⟩
   have b5:Below w4.heap.size w4 w5:=by rw [← hw5];exact(Below.refl _ _).alloc (Nat.le_refl _) _
   have hn5:w5.heap[w4.heap.size]?=some (.cells #[.int .i64 n] 3 (0,0)):=by rw [← hw5];exact heap_alloc_new w4 _
   have hg4:g<w4.heap.size:=(Array.getElem?_eq_some_iff.1 hb4).1
   have hb5:w5.heap[g]?=some (.cells (jbL n0 n1 n2 n3 n4 n5 n6 v) 55 (0,0)):=(b5.block g hg4).trans hb4
   have ho5:w5.ownsRow (g+1) 3 1 v i (l.map (Value.int .i64)):=row_stand ho4 (fun k hk=>by have:=World.ownsRow.lt ho4 k hk;exact b5.block k this.2)
   have HS5:(fun y:World=>y.heap[g]?=some (.cells (jbL n0 n1 n2 n3 n4 n5 n6 v) 55 (0,0))) w5:=hb5
   have hz5:w4.heap.size<w5.heap.size:=(Array.getElem?_eq_some_iff.1 hn5).1
   rw [hw5]
   refine hK.out _ _ (fun _=>HS5) (fun _=>?_)
   clear hK K HS4 hw5
   refine last_one (i:=5) (by kernel_rfl) rfl ?_
   intro K hK
   refine step_append_wide (by rfl) _ _ _ (by rfl) (g+1) 3 i0 _ 1 8 Tryz.underlying53 hi0 hz00 hz01 hz02 rfl (by omega) v i (l.map (Value.int .i64)) (by rfl) ho5 ⟨w4.heap.size,0,none⟩ 1 1 [.int .i64 n] (by rfl) (by rfl) (World.news_of_block (cs:= #[.int .i64 n]) (t:=3) (fr:=(0,0)) hn5) (by simp [Value.oneCell']) (by omega) (by unfold maxLen;omega) (by omega) (by omega) ?_
   intro gg cap w9 hr9 hg9
   have hne:some g≠v.ownBlock:=fun e=>by have:=World.ownsRow.lt ho5 g e.symm;omega
   have hb9:w9.heap[g]?=some (.cells (jbL n0 n1 n2 n3 n4 n5 n6 v) 55 (0,0)):=(hg9.block g (by omega) hne).trans hb5
   have HS9:(fun y:World=>y.heap[g]?=some (.cells (jbL n0 n1 n2 n3 n4 n5 n6 v) 55 (0,0))) w9:=hb9
   refine hK.out _ _ (fun _=>HS9) (fun _=>?_)
   clear hK K HS5
   refine tc [6,7] 6 HS9 (h:=?_)
   refine last_one (i:=7) (by kernel_rfl) rfl ?_
   intro K hK
   refine ite_yes (by rfl) ?_
   have c7:w9.cell? ⟨g,7,none⟩=some v:=cells_at hb9 rfl
   have f7:w9.frozen? ⟨g,7,none⟩=false:=frozen_at hb9
   go_simp
   obtain⟨w10,hw10⟩:∃w10,w9.setCell ⟨g,7,none⟩ (.slice (some ⟨gg,0,none⟩) (i+1) cap)=w10:=⟨_,rfl⟩
   have hc10:Chg (fun k=>k=g) w9 w10:=by rw [← hw10];exact⟨rfl,rfl,rfl,by simp [World.setCell],fun j _ hj=>Below.heap_setCell _ _ _ _ hj⟩
   have hb10:w10.heap[g]?=some (.cells (jbL n0 n1 n2 n3 n4 n5 n6 (.slice (some ⟨gg,0,none⟩) (i+1) cap)) 55 (0,0)):=by rw [← hw10];exact heap_setCell_same w9 g 7 _ _ _ hb9
   have ho10:w10.ownsRow (g+1) 3 1 (.slice (some ⟨gg,0,none⟩) (i+1) cap) (i+1) (l.map (Value.int .i64)++ [.int .i64 n]):=row_stand hr9 (fun k hk=>by have:=World.ownsRow.lt hr9 k hk;exact hc10.block k this.2 (by omega))
   have hsz9:=hg9.size
   have hR10:Rf w10 x t2:=hR4.other (fun k hk=>(hc10.block k (by have:=hR4.lt;omega) (by omega)).trans ((hg9.block k (by have:=hR4.lt;omega) (fun e=>by have:=World.ownsRow.lt ho5 k e.symm;omega)).trans (b5.block k (by have:=hR4.lt;omega))))
   have hsz4:wr.heap.size≤w4.heap.size:=hC4.size
   have hW4:W.heap.size≤wr.heap.size:=HCI.out.size
   have hC10:Chg (fun k=>k=x∨g≤k) W w10:=⟨hc10.os.trans (hg9.os.trans (b5.os.trans (hC4.os.trans HCI.out.os))),hc10.tape.trans (hg9.tape.trans (b5.tape.trans (hC4.tape.trans HCI.out.tape))),hc10.output.trans (hg9.output.trans (b5.output.trans (hC4.output.trans HCI.out.output))),by have:=hc10.size;omega,fun j hj hne=>(hc10.block j (by omega) (by omega)).trans ((hg9.block j (by omega) (fun e=>by have:=World.ownsRow.lt ho5 j e.symm;omega)).trans ((b5.block j (by omega)).trans ((hC4.block j (show j<wr.heap.size by omega) (by omega)).trans (HCI.out.block j hj hne))))⟩
   rw [hw10]
   refine hK.out _ _ (fun h=>absurd rfl h) (fun _=>?_)
   clear hK K HS9 c7 f7
   refine last_done (by kernel_rfl) ?_ _
   have HB10:Hid _:=hb10
   have HO10:Hid _:=ho10
   have HR10:Hid _:=hR10
   have HC10:Hid _:=hC10
   clear hw10 hc10 hb10 ho10 hR10 hC10 hb9 hr9 hg9 hb5 ho5 b5 hn5 hb4 ho4 hR4 hC4 hne HNU HBX HOW HCI hsz9 hsz4 hz5 hg4 hW4
   go_wp2
   go_roundg (q - (i+1))
   case measure=>omega
   case rel=>exact⟨i+1,_,by omega,by go_num,HB10.out,by rw [HSN.out,List.map_append];exact HO10.out,by rw [HSN.out];exact HR10.out,HC10.out⟩
  ·have hlt':¬(i:Int)<q:=by omega
   obtain rfl:i=q:=by omega
   have hln:=numsF_len i s8
   have d0:wr.cell? ⟨g,0,none⟩=some (.int .i64 n0):=cells_at hbx rfl
   have d1:wr.cell? ⟨g,1,none⟩=some (.int .i64 n1):=cells_at hbx rfl
   have d2:wr.cell? ⟨g,2,none⟩=some (.int .i64 n2):=cells_at hbx rfl
   have d3:wr.cell? ⟨g,3,none⟩=some (.int .i64 n3):=cells_at hbx rfl
   have d4:wr.cell? ⟨g,4,none⟩=some (.int .i64 n4):=cells_at hbx rfl
   have d5:wr.cell? ⟨g,5,none⟩=some (.int .i64 n5):=cells_at hbx rfl
   have d6:wr.cell? ⟨g,6,none⟩=some (.int .i64 n6):=cells_at hbx rfl
   have d7:wr.cell? ⟨g,7,none⟩=some v:=cells_at hbx rfl
   have hzw:=HZ.out
   have hres:wr.heap[w.heap.size]?=some (.cells (jbL 0 0 0 0 0 0 0 (.slice none 0 0)) 55 (0,0)):=(hCi.block _ (by omega) (by omega)).trans HG.out
   obtain⟨so,sn,sc,rfl⟩:∃so sn sc,v=.slice so sn sc:=by
    rcases hown.2 with⟨e,_⟩ | ⟨g',c',u',e,_⟩
    ·exact ⟨_,_,_,e⟩
    ·exact ⟨_,_,_,e⟩
   have HRES:Hid _:=hres
   have HOW:Hid _:=hown
   have HRI:Hid _:=hRi
   have HCI:Hid _:=hCi
   have HLN:Hid _:=hln
   clear hres hown hRi hCi hln hbx hzw
   go_wp2_with (refine wpList_store_row rfl 55 (.tmp 2) (.tmp 42) rfl w.heap.size (jbL n0 n1 n2 n3 n4 n5 n6 (.slice so sn sc)) (by simp [Act.eval]) (by simp [Act.eval]) 55 _ HRES.out Tryz.infJb rfl (by simp [Value.oneCell']) ?_)
   refine ret_jb Tryz.results74 rfl rfl HRES.out rfl ⟨.slice so sn sc,rfl,?_,HRI.out.other (fun k hk=>setRow_other _ _ _ _ (show k≠w.heap.size by have:=HXL.out;omega)),?_⟩
   ·rw [HLN.out]
    exact own_base (row_stand HOW.out (fun k hk=>by have:=World.ownsRow.lt HOW.out k hk;exact setRow_other _ _ _ _ (by omega))) (by omega)
   ·refine chg_row (K:=fun k=>k=x) ?_ (.inr (Nat.le_refl _)) _
    exact⟨HCI.out.os.trans HB.out.os,HCI.out.tape.trans HB.out.tape,HCI.out.output.trans HB.out.output,Nat.le_trans HB.out.size HCI.out.size,fun i hi hne=>(HCI.out.block i (by have:=HZ.out;omega) (by have:=HZ.out;omega)).trans (HB.out.block i hi)⟩
end Go.Proofs.YtceoibfliggalaaGreatDoor
