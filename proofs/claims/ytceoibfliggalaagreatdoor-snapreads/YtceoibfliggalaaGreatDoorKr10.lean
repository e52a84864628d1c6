/-
  TEXTS: RwA, RuA.
-/
import Derived.Test.YtceoibfliggalaaGreatDoorKr7
import Derived.Test.YtceoibfliggalaaGreatDoorKr1
import Derived.Test.YtceoibfliggalaaGreatDoorKr3
import Derived.Deep.LoopGhost
import Derived.Deep.RegionHeld3
import Derived.Deep.QuietTactic
namespace Go.Proofs.YtceoibfliggalaaGreatDoor
open Go.RowKit Wd Ld Cg Lg
theorem drew_below (w:World):Below w.heap.size w w.drew:=⟨rfl,rfl,rfl,Nat.le_refl _,fun _ _=>rfl⟩
def IntsAt (W:World) (ao:Option Addr) (l:List Int):Prop:=∃g o,(0<l.length→ao=some ⟨g,o,none⟩)∧∀k n,l[k]?=some n→W.cell? ⟨g,o+k,none⟩=some (.int .i64 n)
theorem IntsAt.below {W W':World} {ao:Option Addr} {l:List Int} (h:IntsAt W ao l) (b:Below W.heap.size W W'):IntsAt W' ao l:=by
 obtain⟨g,o,h1,h2⟩:=h
 exact⟨g,o,h1,fun k n hn=>cellB b (h2 k n hn)⟩
theorem index_any {w:World} {ao:Option Addr} {xs:List Int} {c:Nat} (hA:IntsAt w ao xs) (hl:xs.length≤140737488355328) (p:Int):
  Calls Tryz.prog 180 #[.slice ao xs.length c,.int .i64 p] w fun e w'=>(∃i:Int,e=.returned (.int .i64 i)∧decide (0≤i)=decide (p∈xs))∧w=w':=by
 obtain⟨q,hq⟩:∃q,xs.length=q:=⟨_,rfl⟩
 obtain⟨g,o,hg,hc⟩:=hA
 rw [hq]at hg hl ⊢
 go_enter Tryz.func180,Tryz.ntmps180
 go_wp2
 go_loopg [8] q (fun gk pv wr=>∃j:Nat,j+gk=q∧pv=.int .i64 j∧w=wr∧∀i x,i<j→xs[i]?=some x→x≠p)
 case atStart=>exact⟨0,by omega,rfl,rfl,fun i x hi=>by omega⟩
 case round=>
  obtain⟨j,hj,rfl,rfl,hinv⟩:=hrel
  by_cases hlt:j<q
  ·have hlt':(j:Int)<q:=by omega
   obtain⟨x,hx⟩:∃x,xs[j]?=some x:=⟨_,List.getElem?_eq_getElem (by omega)⟩
   obtain rfl:=hg (by omega)
   have d0:=hc j x hx
   have HINV:Hid _:=hinv
   clear hc hg hinv
   by_cases e:x=p
   ·subst e
    have hmem:=List.mem_of_getElem? hx
    have HM:Hid _:=hmem
    clear hmem hx
    go_wp2
    go_ret
    exact⟨⟨j,rfl,by simp [HM.out]⟩,rfl⟩
   ·have e':(p==x)=false:=by simpa using fun h:p=x=>e h.symm
    have HX:Hid _:=hx
    clear hx
    go_wp2
    go_roundg (q - (j+1))
    case measure=>omega
    case rel=>
     refine⟨j+1,by omega,rfl,rfl,fun i y hi hy=>?_⟩
     by_cases hij:i=j
     ·subst hij
      rw [HX.out]at hy
      cases hy
      exact e
     ·exact HINV.out i y (by omega) hy
  ·obtain rfl:j=q:=by omega
   have hno:p∉xs:=fun hm=>by
    obtain⟨i,hi⟩:=List.getElem?_of_mem hm
    exact hinv i p (by have:=(List.getElem?_eq_some_iff.1 hi).1;omega) hi rfl
   clear hinv
   go_wp2
   go_ret
   exact⟨⟨-1,rfl,by simp [hno]⟩,rfl⟩
theorem contains_any {w:World} {ao:Option Addr} {xs:List Int} {c:Nat} (hA:IntsAt w ao xs) (hl:xs.length≤140737488355328) (p:Int):
  Calls Tryz.prog 153 #[.slice ao xs.length c,.int .i64 p] w fun e w'=>e=.returned (.bool (decide (p∈xs)))∧w=w':=by
 have hi:=index_any (c:=c) hA hl p
 clear hA
 go_enter Tryz.func153,Tryz.ntmps153
 go_wp2_with fail
 refine hi.mono ?_
 rintro e w1 ⟨⟨i,rfl,hd⟩,rfl⟩
 have HD:Hid _:=hd
 clear hd
 go_wp2
 go_ret
 exact⟨by rw [← HD.out];rfl,rfl⟩
def jbV (j:Jb):Value:=.agg #[.int .i64 j.ac,.int .i64 j.nd,.int .i64 j.lm,.int .i64 j.sb,.int .i64 j.st,.int .i64 j.sr,.int .i64 j.en,.slice j.sa j.sl j.sc]
theorem ran_any (j:Jb) (now:Int) (w:World):
  Calls Tryz.prog 154 #[jbV j,.int .i64 now] w fun e w'=>e=.returned (.int .i64 (wrap64 (ranZ now j)))∧Below w.heap.size w w':=by
 unfold jbV ranZ
 have b0:∀o,Below w.heap.size w (w.alloc o):=fun o=>(Below.refl _ w).alloc (Nat.le_refl _) o
 by_cases h3:j.st=3
 ·rw [if_pos (.inl h3),h3]
  go_enter Tryz.func154,Tryz.ntmps154
  go_wp2
  go_ret
  exact⟨rfl,b0 _⟩
 by_cases h4:j.st=4
 ·rw [if_pos (.inr (.inl h4)),h4]
  go_enter Tryz.func154,Tryz.ntmps154
  go_wp2
  go_ret
  exact⟨rfl,b0 _⟩
 by_cases h5:j.st=5
 ·rw [if_pos (.inr (.inr h5)),h5]
  go_enter Tryz.func154,Tryz.ntmps154
  go_wp2
  go_ret
  exact⟨rfl,b0 _⟩
 rw [if_neg (by omega)]
 by_cases h2:j.st=2
 ·rw [if_pos h2,h2]
  go_enter Tryz.func154,Tryz.ntmps154
  go_wp2
  go_ret
  exact⟨rfl,b0 _⟩
 ·rw [if_neg h2,show wrap64 0=0 by unfold wrap64;omega]
  go_enter Tryz.func154,Tryz.ntmps154
  go_wp2
  go_ret
  exact⟨rfl,b0 _⟩
structure JbAt (W:World) (g o:Nat) (j:Jb):Prop where
 ac:W.cell? ⟨g,o,none⟩=some (.int .i64 j.ac)
 nd:W.cell? ⟨g,o+1,none⟩=some (.int .i64 j.nd)
 lm:W.cell? ⟨g,o+2,none⟩=some (.int .i64 j.lm)
 sb:W.cell? ⟨g,o+3,none⟩=some (.int .i64 j.sb)
 st:W.cell? ⟨g,o+4,none⟩=some (.int .i64 j.st)
 sr:W.cell? ⟨g,o+5,none⟩=some (.int .i64 j.sr)
 en:W.cell? ⟨g,o+6,none⟩=some (.int .i64 j.en)
 se:W.cell? ⟨g,o+7,none⟩=some (.slice j.sa j.sl j.sc)
theorem JbAt.below {W W':World} {g o:Nat} {j:Jb} (h:JbAt W g o j) (b:Below W.heap.size W W'):JbAt W' g o j:=⟨cellB b h.ac,cellB b h.nd,cellB b h.lm,cellB b h.sb,cellB b h.st,cellB b h.sr,cellB b h.en,cellB b h.se⟩
def JobsAt (W:World) (ao:Option Addr) (l:List Jb):Prop:=∃g o,(0<l.length→ao=some ⟨g,o,none⟩)∧∀k j,l[k]?=some j→JbAt W g (o+k*8) j
theorem JobsAt.below {W W':World} {ao:Option Addr} {l:List Jb} (h:JobsAt W ao l) (b:Below W.heap.size W W'):JobsAt W' ao l:=by
 obtain⟨g,o,h1,h2⟩:=h
 exact⟨g,o,h1,fun k j hj=>(h2 k j hj).below b⟩
def rawV (acc:List Int) (now:Int) (js:List Jb):Int:=wrap64 (rawZ acc now js)
theorem one_in {acc:List Int} {now:Int} {j:Jb} (h:j.ac∈acc):oneZ acc now j=j.nd*ranZ now j:=by unfold oneZ;rw [if_pos h]
theorem one_out {acc:List Int} {now:Int} {j:Jb} (h:j.ac∉acc):oneZ acc now j=0:=by unfold oneZ;rw [if_neg h]
theorem raw_in {acc:List Int} {now:Int} {js:List Jb} {i:Nat} {j:Jb} (h:js[i]?=some j) (hm:j.ac∈acc):wrap64 (rawV acc now (js.take i)+wrap64 (j.nd*wrap64 (ranZ now j)))=rawV acc now (js.take (i+1)):=by
 unfold rawV
 rw [wrap_one,raw_take h,one_in hm]
theorem raw_out {acc:List Int} {now:Int} {js:List Jb} {i:Nat} {j:Jb} (h:js[i]?=some j) (hm:oneZ acc now j=0):rawV acc now (js.take i)=rawV acc now (js.take (i+1)):=by
 unfold rawV
 rw [raw_take h,hm,Int.add_zero]
theorem raw_zero {acc:List Int} {now:Int} {js:List Jb}:rawV acc now (js.take 0)=0:=by simp [rawV,rawZ,wrap64]
theorem raw_all {acc:List Int} {now:Int} {js:List Jb}:rawV acc now (js.take js.length)=rawV acc now js:=by simp
theorem JbAt.new (w:World) (j:Jb):JbAt (w.alloc (.cells #[.int .i64 j.ac,.int .i64 j.nd,.int .i64 j.lm,.int .i64 j.sb,.int .i64 j.st,.int .i64 j.sr,.int .i64 j.en,.slice j.sa j.sl j.sc] 55)) w.heap.size 0 j:=
 ⟨cells_at (heap_alloc_new _ _) rfl,cells_at (heap_alloc_new _ _) rfl,cells_at (heap_alloc_new _ _) rfl,cells_at (heap_alloc_new _ _) rfl,cells_at (heap_alloc_new _ _) rfl,cells_at (heap_alloc_new _ _) rfl,cells_at (heap_alloc_new _ _) rfl,cells_at (heap_alloc_new _ _) rfl⟩
theorem JbAt.eight {w:World} {g:Nat} {j:Jb} (h:JbAt w g 0 j):w.cell? ⟨g,0,none⟩=some (.int .i64 j.ac)∧w.cell? ⟨g,1,none⟩=some (.int .i64 j.nd)∧w.cell? ⟨g,2,none⟩=some (.int .i64 j.lm)∧w.cell? ⟨g,3,none⟩=some (.int .i64 j.sb)∧w.cell? ⟨g,4,none⟩=some (.int .i64 j.st)∧w.cell? ⟨g,5,none⟩=some (.int .i64 j.sr)∧w.cell? ⟨g,6,none⟩=some (.int .i64 j.en)∧w.cell? ⟨g,7,none⟩=some (.slice j.sa j.sl j.sc):=by
 obtain⟨h0,h1,h2,h3,h4,h5,h6,h7⟩:=h
 simp only [Nat.zero_add]at *
 exact⟨h0,h1,h2,h3,h4,h5,h6,h7⟩
set_option maxRecDepth 20000 in
set_option maxHeartbeats 2000000 in
theorem raw_any {w:World} {ao bo:Option Addr} {js:List Jb} {xs:List Int} {c c':Nat} (hJ:JobsAt w ao js) (hl:js.length≤140737488355328) (hA:IntsAt w bo xs) (hl':xs.length≤140737488355328) (now:Int):
  Calls Tryz.prog 111 #[.slice ao js.length c,.slice bo xs.length c',.int .i64 now] w fun e w'=>e=.returned (.int .i64 (rawV xs now js))∧Below w.heap.size w w':=by
 have HCT:Hid (∀W,Below w.heap.size w W→∀p,Calls Tryz.prog 153 #[.slice bo xs.length c',.int .i64 p] W fun e w'=>e=.returned (.bool (decide (p∈xs)))∧W=w'):=fun W hb p=>contains_any (hA.below hb) hl' p
 clear hA
 rw [← raw_all]
 obtain⟨q,hq⟩:∃q,js.length=q:=⟨_,rfl⟩
 obtain⟨m,hm⟩:∃m,xs.length=m:=⟨_,rfl⟩
 obtain⟨g,o,hg,hc⟩:=hJ
 rw [hm]at HCT hl' ⊢
 rw [hq]at hg hl ⊢
 clear hm
 have HQ:Hid (js.length=q):=hq
 clear hq
 go_enter Tryz.func111,Tryz.ntmps111
 go_wp2
 go_loopg [7,12] q (fun gk ps pj wr=>∃i:Nat,i+gk=q∧pj=.int .i64 i∧ps=.int .i64 (rawV xs now (js.take i))∧Below w.heap.size w wr)
 case atStart=>exact⟨0,by omega,rfl,by rw [raw_zero],Below.refl _ _⟩
 case round=>
  obtain⟨i,hi,rfl,rfl,hb⟩:=hrel
  by_cases hlt:i<q
  ·have hlt':(i:Int)<q:=by omega
   obtain⟨j,hj⟩:∃j,js[i]?=some j:=⟨_,List.getElem?_eq_getElem (by rw [HQ.out];exact hlt)⟩
   obtain rfl:=hg (by omega)
   obtain⟨d0,d1,d2,d3,d4,d5,d6,d7⟩:=(hc i j hj).below hb
   have b1:Below w.heap.size w (wr.alloc (.cells #[.int .i64 j.ac,.int .i64 j.nd,.int .i64 j.lm,.int .i64 j.sb,.int .i64 j.st,.int .i64 j.sr,.int .i64 j.en,.slice j.sa j.sl j.sc] 55)):=hb.alloc hb.size _
   have hct:=HCT.out _ b1 j.ac
   have HJ:=JbAt.new wr j
   have HB1:Hid _:=b1
   have HJH:Hid (JbAt (wr.alloc (.cells #[.int .i64 j.ac,.int .i64 j.nd,.int .i64 j.lm,.int .i64 j.sb,.int .i64 j.st,.int .i64 j.sr,.int .i64 j.en,.slice j.sa j.sl j.sc] 55)) wr.heap.size 0 j):=HJ
   clear hc hg hb b1 HJ
   by_cases hmem:j.ac∈xs
   ·have HS:Hid _:=raw_in (now:=now) hj hmem
    rw [decide_eq_true hmem]at hct
    generalize rawV xs now (js.take i)=s at HS
    have hra:=ran_any j now
    unfold jbV at hra
    generalize wrap64 (ranZ now j)=r at HS hra
    clear hj hmem
    go_wp2_with (first | (go_at_call 153;refine hct.mono ?_;rintro e w1 ⟨rfl,hw1⟩;rw [← hw1];clear hw1))
    clear hct d0 d1 d2 d3 d4 d5 d6 d7
    obtain⟨W0,hW0⟩:∃W0,wr.alloc (.cells #[.int .i64 j.ac,.int .i64 j.nd,.int .i64 j.lm,.int .i64 j.sb,.int .i64 j.st,.int .i64 j.sr,.int .i64 j.en,.slice j.sa j.sl j.sc] 55)=W0:=⟨_,rfl⟩
    rw [hW0]at HB1 HJH ⊢
    clear hW0
    have S0:Hid (JbAt W0.drew wr.heap.size 0 j):=HJH.out.below (drew_below W0)
    have HB2:Hid (Below w.heap.size w W0.drew):=HB1.out.trans ((drew_below W0).mono HB1.out.size)
    clear HJH HB1
    go_region_held3 (fun w'=>w'.cell? ⟨wr.heap.size,0,none⟩=some (.int .i64 j.ac)∧w'.cell? ⟨wr.heap.size,1,none⟩=some (.int .i64 j.nd)∧w'.cell? ⟨wr.heap.size,2,none⟩=some (.int .i64 j.lm)∧w'.cell? ⟨wr.heap.size,3,none⟩=some (.int .i64 j.sb)∧w'.cell? ⟨wr.heap.size,4,none⟩=some (.int .i64 j.st)∧w'.cell? ⟨wr.heap.size,5,none⟩=some (.int .i64 j.sr)∧w'.cell? ⟨wr.heap.size,6,none⟩=some (.int .i64 j.en)∧w'.cell? ⟨wr.heap.size,7,none⟩=some (.slice j.sa j.sl j.sc))
     (first | exact JbAt.eight S0.out | exact JbAt.eight S1)
     (first | (go_at_call 154;refine(hra _).mono ?_;rintro e w2 ⟨rfl,b2⟩;have S1:=JbAt.below S0.out b2))
    all_goals
     go_wp2
     go_roundg (q - (i+1))
     case measure=>omega
     case rel=>exact⟨i+1,by omega,rfl,by rw [← HS.out];simp only [IntKind.wrap_i64,wrap64],HB2.out.trans (b2.mono HB2.out.size)⟩
   ·have HS:Hid _:=raw_out (now:=now) (acc:=xs) hj (one_out hmem)
    rw [decide_eq_false hmem]at hct
    clear hj hmem
    go_wp2_with (first | (go_at_call 153;refine hct.mono ?_;rintro e w1 ⟨rfl,rfl⟩))
    go_roundg (q - (i+1))
    case measure=>omega
    case rel=>exact⟨i+1,by omega,rfl,by rw [HS.out],HB1.out⟩
  ·obtain rfl:i=q:=by omega
   go_wp2
   go_ret
   exact⟨rfl,hb⟩
theorem ran_end {now:Int} {j:Jb} (h:j.st=3∨j.st=4∨j.st=5):ranZ now j=j.en - j.sr:=by unfold ranZ;rw [if_pos h]
theorem ran_run {now:Int} {j:Jb} (h:j.st=2):ranZ now j=now - j.sr:=by unfold ranZ;rw [if_neg (by omega),if_pos h]
theorem ran_no {now:Int} {j:Jb} (h:¬(j.st=3∨j.st=4∨j.st=5)) (h2:¬j.st=2):ranZ now j=0:=by unfold ranZ;rw [if_neg h,if_neg h2]
theorem mem_take_succ {xs:List Int} {k:Nat} {x p:Int} (h:xs[k]?=some x):decide (p∈xs.take (k+1))=(decide (p∈xs.take k)||x==p):=by
 obtain⟨hk,rfl⟩:=List.getElem?_eq_some_iff.1 h
 rw [List.take_succ_eq_append_getElem hk]
 rw [Bool.eq_iff_iff]
 simp only [decide_eq_true_eq,List.mem_append,List.mem_singleton,Bool.or_eq_true,beq_iff_eq]
 constructor
 ·rintro (h | h)
  ·exact .inl h
  ·exact .inr h.symm
 ·rintro (h | h)
  ·exact .inl h
  ·exact .inr h.symm
set_option maxRecDepth 20000 in
set_option maxHeartbeats 4000000 in
theorem rraw_any {w:World} {ao bo:Option Addr} {js:List Jb} {xs:List Int} {c c':Nat} (hJ:JobsAt w ao js) (hl:js.length≤140737488355328) (hA:IntsAt w bo xs) (hl':xs.length≤140737488355328) (now:Int):
  Calls Tryz.prog 85 #[.slice ao js.length c,.slice bo xs.length c',.int .i64 now] w fun e w'=>e=.returned (.int .i64 (rawV xs now js))∧Below w.heap.size w w':=by
 rw [← raw_all]
 obtain⟨q,hq⟩:∃q,js.length=q:=⟨_,rfl⟩
 obtain⟨m,hm⟩:∃m,xs.length=m:=⟨_,rfl⟩
 obtain⟨g,o,hg,hc⟩:=hJ
 obtain⟨g',o',hg',hc'⟩:=hA
 rw [hm]at hg' hl' ⊢
 rw [hq]at hg hl ⊢
 have HM:Hid (xs.length=m):=hm
 have HQ:Hid (js.length=q):=hq
 clear hq hm
 go_enter Tryz.func85,Tryz.ntmps85
 go_wp2
 go_loopg [7,15] q (fun gk ps pj wr=>∃i:Nat,i+gk=q∧pj=.int .i64 i∧ps=.int .i64 (rawV xs now (js.take i))∧Below w.heap.size w wr)
 case atStart=>exact⟨0,by omega,rfl,by rw [raw_zero],Below.refl _ _⟩
 case round=>
  obtain⟨i,hi,rfl,rfl,hb⟩:=hrel
  by_cases hlt:i<q
  ·have hlt':(i:Int)<q:=by omega
   obtain⟨j,hj⟩:∃j,js[i]?=some j:=⟨_,List.getElem?_eq_getElem (by rw [HQ.out];exact hlt)⟩
   obtain rfl:=hg (by omega)
   obtain⟨d0,d1,d2,d3,d4,d5,d6,d7⟩:=(hc i j hj).below hb
   have b1:Below w.heap.size w (wr.alloc (.cells #[.int .i64 j.ac,.int .i64 j.nd,.int .i64 j.lm,.int .i64 j.sb,.int .i64 j.st,.int .i64 j.sr,.int .i64 j.en,.slice j.sa j.sl j.sc] 55)):=hb.alloc hb.size _
   have HB1:Hid _:=b1
   have HJ:Hid _:=JbAt.new wr j
   have HJS:Hid _:=hj
   clear b1 hb hj
   go_wp2_with fail
   obtain⟨W0,hW0⟩:∃W0,wr.alloc (.cells #[.int .i64 j.ac,.int .i64 j.nd,.int .i64 j.lm,.int .i64 j.sb,.int .i64 j.st,.int .i64 j.sr,.int .i64 j.en,.slice j.sa j.sl j.sc] 55)=W0:=⟨_,rfl⟩
   rw [hW0]at HB1 HJ ⊢
   clear hW0 d0 d1 d2 d3 d4 d5 d6 d7
   obtain⟨x0,x1,x2,x3,x4,x5,x6,x7⟩:=JbAt.eight HJ.out
   go_loopg [10,21] m (fun gk pb pk wx=>∃k:Nat,k+gk=m∧pk=.int .i64 k∧pb=.bool (decide (j.ac∈xs.take k))∧W0=wx)
   case atStart=>exact⟨0,by omega,rfl,by simp,rfl⟩
   case round=>
    obtain⟨k,hk,rfl,rfl,rfl⟩:=hrel
    by_cases hkm:k<m
    ·have hkm':(k:Int)<m:=by omega
     obtain⟨x,hx⟩:∃x,xs[k]?=some x:=⟨_,List.getElem?_eq_getElem (by rw [HM.out];exact hkm)⟩
     obtain rfl:=hg' (by omega)
     have y0:=cellB HB1.out (hc' k x hx)
     have HT:Hid _:=mem_take_succ (p:=j.ac) hx
     clear hx
     cases hdb:decide (j.ac∈xs.take k)with
     | true=>
      rw [hdb]at HT
      clear hdb
      go_wp2
      go_roundg (m - (k+1))
      case measure=>omega
      case rel=>exact⟨k+1,by omega,rfl,by rw [HT.out];rfl,rfl⟩
     | false=>
      rw [hdb]at HT
      clear hdb
      go_wp2
      go_roundg (m - (k+1))
      case measure=>omega
      case rel=>exact⟨k+1,by omega,rfl,by rw [HT.out];rfl,rfl⟩
    ·obtain rfl:k=m:=by omega
     have hall:xs.take k=xs:=List.take_of_length_le (by rw [HM.out];omega)
     rw [hall]
     clear hall
     by_cases hmem:j.ac∈xs
     ·rw [decide_eq_true hmem]
      by_cases h3:j.st=3
      ·have HS:Hid _:=raw_in (now:=now) HJS.out hmem
       rw [ran_end (.inl h3)]at HS
       rw [h3]at x4
       clear hmem h3
       go_wp2
       go_roundg (q - (i+1))
       case measure=>omega
       case rel=>exact⟨i+1,by omega,rfl,by rw [← HS.out],HB1.out⟩
      by_cases h4:j.st=4
      ·have HS:Hid _:=raw_in (now:=now) HJS.out hmem
       rw [ran_end (.inr (.inl h4))]at HS
       rw [h4]at x4
       clear hmem h3 h4
       go_wp2
       go_roundg (q - (i+1))
       case measure=>omega
       case rel=>exact⟨i+1,by omega,rfl,by rw [← HS.out],HB1.out⟩
      by_cases h5:j.st=5
      ·have HS:Hid _:=raw_in (now:=now) HJS.out hmem
       rw [ran_end (.inr (.inr h5))]at HS
       rw [h5]at x4
       clear hmem h3 h4 h5
       go_wp2
       go_roundg (q - (i+1))
       case measure=>omega
       case rel=>exact⟨i+1,by omega,rfl,by rw [← HS.out],HB1.out⟩
      by_cases h2:j.st=2
      ·have HS:Hid _:=raw_in (now:=now) HJS.out hmem
       rw [ran_run h2]at HS
       rw [h2]at x4
       clear hmem h3 h4 h5 h2
       go_wp2
       go_roundg (q - (i+1))
       case measure=>omega
       case rel=>exact⟨i+1,by omega,rfl,by rw [← HS.out],HB1.out⟩
      ·have HS:Hid _:=raw_out (now:=now) (acc:=xs) HJS.out (by rw [one_in hmem,ran_no (by omega) h2,Int.mul_zero])
       clear hmem
       go_wp2
       go_roundg (q - (i+1))
       case measure=>omega
       case rel=>exact⟨i+1,by omega,rfl,by rw [HS.out],HB1.out⟩
     ·rw [decide_eq_false hmem]
      have HS:Hid _:=raw_out (now:=now) (acc:=xs) HJS.out (one_out hmem)
      clear hmem
      go_wp2
      go_roundg (q - (i+1))
      case measure=>omega
      case rel=>exact⟨i+1,by omega,rfl,by rw [HS.out],HB1.out⟩
  ·obtain rfl:i=q:=by omega
   go_wp2
   go_ret
   exact⟨rfl,hb⟩
end Go.Proofs.YtceoibfliggalaaGreatDoor
namespace Go.Proofs.YtceoibfliggalaaGreatDoor
open Go.RowKit Wd Tr Cg Lg
structure Pj where
 v:Jv
 sa:Option Addr
 sc:Nat
def Pj.jb (p:Pj):Jb:=⟨p.v.ac,p.v.nd,p.v.lm,p.v.sb,p.v.st,p.v.sr,p.v.en,p.sa,p.v.set.length,p.sc⟩
def pjV (p:Pj):Value:=.agg #[.int .i64 p.v.ac,.int .i64 p.v.nd,.int .i64 p.v.lm,.int .i64 p.v.sb,.int .i64 p.v.st,.int .i64 p.v.sr,.int .i64 p.v.en,.slice p.sa p.v.set.length p.sc]
set_option maxRecDepth 20000 in
theorem rset_any {w:World} (c:Cf) (p:Pj) (hS:IntsAt w p.sa p.v.set) (hl:p.v.set.length≤140737488355328):
  Calls Tryz.prog 128 #[cfV c,pjV p] w fun e w'=>e=.returned (.bool (setB c.nodes p.v))∧Below w.heap.size w w':=by
 obtain⟨⟨ac,nd,lm,sb,st,sr,en,xs⟩,sa,sc⟩:=p
 unfold cfV pjV setB
 dsimp only at hS hl ⊢
 obtain⟨q,hq⟩:∃q,xs.length=q:=⟨_,rfl⟩
 obtain⟨g,o,hg,hc⟩:=hS
 have HQ:Hid (xs.length=q):=hq
 have HALL:Hid (xs.take q=xs):=by
  have:=List.take_of_length_le (l:=xs) (i:=q) (by omega)
  exact this
 rw [hq]at hg hl ⊢
 clear hq
 have b2:Below w.heap.size w ((w.alloc (.cells #[.int .i64 c.nodes,.int .i64 c.queue,.int .i64 c.limit,.int .i64 c.age,.int .i64 c.fair,.int .i64 c.size,.int .i64 c.period,.int .i64 c.half] 23)).alloc (.cells #[.int .i64 ac,.int .i64 nd,.int .i64 lm,.int .i64 sb,.int .i64 st,.int .i64 sr,.int .i64 en,.slice sa q sc] 55)):=((Below.refl _ w).alloc (Nat.le_refl _) _).alloc (by simp) _
 have HB:Hid (Below w.heap.size w ((w.alloc (.cells #[.int .i64 c.nodes,.int .i64 c.queue,.int .i64 c.limit,.int .i64 c.age,.int .i64 c.fair,.int .i64 c.size,.int .i64 c.period,.int .i64 c.half] 23)).alloc (.cells #[.int .i64 ac,.int .i64 nd,.int .i64 lm,.int .i64 sb,.int .i64 st,.int .i64 sr,.int .i64 en,.slice sa q sc] 55))):=b2
 clear b2
 go_enter Tryz.func128,Tryz.ntmps128
 go_wp2
 obtain⟨W,hW⟩:∃W,(w.alloc (.cells #[.int .i64 c.nodes,.int .i64 c.queue,.int .i64 c.limit,.int .i64 c.age,.int .i64 c.fair,.int .i64 c.size,.int .i64 c.period,.int .i64 c.half] 23)).alloc (.cells #[.int .i64 ac,.int .i64 nd,.int .i64 lm,.int .i64 sb,.int .i64 st,.int .i64 sr,.int .i64 en,.slice sa q sc] 55)=W:=⟨_,rfl⟩
 have c0:W.cell? ⟨w.heap.size,0,none⟩=some (.int .i64 c.nodes):=by rw [← hW];simp
 have c1:W.cell? ⟨w.heap.size+1,1,none⟩=some (.int .i64 nd):=by rw [← hW];simp
 have c7:W.cell? ⟨w.heap.size+1,7,none⟩=some (.slice sa q sc):=by rw [← hW];simp
 rw [hW]at HB ⊢
 clear hW
 go_loopg [5,11] q (fun gk pl pk wr=>∃k:Nat,k+gk=q∧pk=.int .i64 k∧pl=.int .i64 (lastOf (-1) (xs.take k))∧W=wr∧riseB c.nodes (-1) (xs.take k)=true)
 case atStart=>exact⟨0,by omega,rfl,rfl,rfl,rfl⟩
 case round=>
  obtain⟨k,hk,rfl,rfl,rfl,hr⟩:=hrel
  by_cases hlt:k<q
  ·have hlt':(k:Int)<q:=by omega
   obtain⟨x,hx⟩:∃x,xs[k]?=some x:=⟨_,List.getElem?_eq_getElem (by rw [HQ.out];exact hlt)⟩
   obtain rfl:=hg (by omega)
   have d0:=cellB HB.out (hc k x hx)
   have HN:=rise_take (n:=c.nodes) (last:= -1) hx hr
   have HL:Hid (lastOf (-1) (xs.take (k+1))=x):=lastOf_take hx
   have HRF:Hid (riseB c.nodes (-1) (xs.take (k+1))=false→riseB c.nodes (-1) xs=false):=rise_false
   generalize lastOf (-1) (xs.take k)=la at *
   clear hx hr hc hg
   by_cases h1:x≤la
   ·have HN2:Hid (riseB c.nodes (-1) xs=false):=HRF.out (by rw [HN,decide_eq_false (by omega)];rfl)
    clear HN
    go_wp2
    go_ret
    exact⟨by rw [HN2.out];rfl,HB.out⟩
   ·by_cases h2:c.nodes≤x
    ·have HN2:Hid (riseB c.nodes (-1) xs=false):=HRF.out (by rw [HN,decide_eq_false (show ¬x<c.nodes by omega),Bool.and_false])
     clear HN
     go_wp2
     go_ret
     exact⟨by rw [HN2.out];rfl,HB.out⟩
    ·have HN2:Hid (riseB c.nodes (-1) (xs.take (k+1))=true):=by
      have:riseB c.nodes (-1) (xs.take (k+1))=true:=by rw [HN,decide_eq_true (by omega),decide_eq_true (by omega)];rfl
      exact this
     clear HN
     go_wp2
     go_roundg (q - (k+1))
     case measure=>omega
     case rel=>exact⟨k+1,by omega,rfl,by rw [HL.out],rfl,HN2.out⟩
  ·obtain rfl:k=q:=by omega
   have HR:Hid (riseB c.nodes (-1) xs=true):=by
    rw [HALL.out]at hr
    exact hr
   clear hr hc hg
   go_wp2
   go_ret
   exact⟨by rw [HR.out,Bool.true_and];congr 2,HB.out⟩
end Go.Proofs.YtceoibfliggalaaGreatDoor
