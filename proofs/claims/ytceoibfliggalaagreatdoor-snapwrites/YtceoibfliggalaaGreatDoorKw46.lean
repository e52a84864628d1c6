/-
  TEXTS: SpB, SpC.
-/
import Derived.Test.YtceoibfliggalaaGreatDoorKw15
namespace Go.Proofs.YtceoibfliggalaaGreatDoor
open Go.RowKit Wd Tr Cg Lg
def satV (n:Nat):Int:=if n≤2147483647 then(n:Int)else 2147483648
def byA:List Ac→Nat
 | []=>0
 | a::l=>a.nm.size+50+byA l
def byJ:List Pj→Nat
 | []=>0
 | p::l=>p.v.set.length*8+70+byJ l
theorem byA_app:∀a b:List Ac,byA (a++b)=byA a+byA b
 | [],b=>by simp [byA]
 | p::a,b=>by simp only [List.cons_append,byA,byA_app a b];omega
theorem byJ_app:∀a b:List Pj,byJ (a++b)=byJ a+byJ b
 | [],b=>by simp [byJ]
 | p::a,b=>by simp only [List.cons_append,byJ,byJ_app a b];omega
theorem byA_take {l:List Ac} {i:Nat} {p:Ac} (h:l[i]?=some p):byA (l.take (i+1))=byA (l.take i)+(p.nm.size+50):=by
 obtain⟨hi,rfl⟩:=List.getElem?_eq_some_iff.1 h
 rw [List.take_succ_eq_append_getElem hi,byA_app]
 simp [byA]
theorem byJ_take {l:List Pj} {i:Nat} {p:Pj} (h:l[i]?=some p):byJ (l.take (i+1))=byJ (l.take i)+(p.v.set.length*8+70):=by
 obtain⟨hi,rfl⟩:=List.getElem?_eq_some_iff.1 h
 rw [List.take_succ_eq_append_getElem hi,byJ_app]
 simp [byJ]
theorem byA_le (l:List Ac) (i:Nat):byA (l.take i)≤byA l:=by
 have:=byA_app (l.take i) (l.drop i)
 rw [List.take_append_drop]at this
 omega
theorem byJ_le (l:List Pj) (i:Nat):byJ (l.take i)≤byJ l:=by
 have:=byJ_app (l.take i) (l.drop i)
 rw [List.take_append_drop]at this
 omega
def byN (la:List Ac) (ps:List Pj):Nat:=100+byA la+byJ ps
theorem sat_big {n:Nat} (h:2147483647<n):satV n=2147483648:=if_neg (by omega)
theorem sat_low {n:Nat} (h:n≤2147483647):satV n=n:=if_pos h
set_option maxRecDepth 20000 in
set_option maxHeartbeats 1000000 in
theorem more_any {w:World} (n k:Nat):Calls Tryz.prog 22 #[.int .i64 (satV n),.int .i64 (k:Int)] w fun e w'=>e=.returned (.int .i64 (satV (n+k)))∧w'=w:=by
 by_cases h1:n≤2147483647
 ·rw [sat_low h1]
  have h1':¬(2147483647:Int)<(n:Int):=by omega
  have hw:IntKind.i64.wrap (2147483647 - (n:Int))=2147483647 - (n:Int):=by rw [IntKind.wrap_i64];omega
  by_cases h2:n+k≤2147483647
  ·have HS:Hid (satV (n+k)=((n:Int)+k)):=(sat_low h2).trans (by omega)
   have h2':¬(2147483647 - (n:Int))<(k:Int):=by omega
   have hw2:IntKind.i64.wrap ((n:Int)+(k:Int))=(n:Int)+k:=by rw [IntKind.wrap_i64];omega
   go_enter Tryz.func22,Tryz.ntmps22
   go_wp2
   go_ret
   exact⟨by rw [HS.out];rfl,rfl⟩
  ·have HS:Hid (satV (n+k)=2147483648):=sat_big (by omega)
   have h2':(2147483647 - (n:Int))<(k:Int):=by omega
   go_enter Tryz.func22,Tryz.ntmps22
   go_wp2
   go_ret
   exact⟨by rw [HS.out];rfl,rfl⟩
 ·rw [sat_big (n:=n) (by omega)]
  have HS:Hid (satV (n+k)=2147483648):=sat_big (by omega)
  go_enter Tryz.func22,Tryz.ntmps22
  go_wp2
  go_ret
  exact⟨by rw [HS.out];rfl,rfl⟩
end Go.Proofs.YtceoibfliggalaaGreatDoor
namespace Go.Proofs.YtceoibfliggalaaGreatDoor
open Go.RowKit Wd Tr Cg Lg
set_option maxRecDepth 20000 in
set_option maxHeartbeats 2000000 in
theorem beyond_any {w:World} (c:Cf) (now:Int) {ao:Option Addr} {la:List Ac} {ca:Nat} {jo:Option Addr} {ps:List Pj} {cj:Nat} (hd:Int) (h:StIn w ao la ca jo ps cj):
  Calls Tryz.prog 8 #[.agg (stL c now ao la.length ca jo ps.length cj hd)] w fun e w'=>e=.returned (.bool (decide (2147483647<byN la ps)))∧Below w.heap.size w w':=by
 obtain⟨g,o,hg,hrow⟩:=row_at h.jobs
 obtain⟨ga,oa,hga,hca⟩:=h.acs
 have HROW:Hid (∀x,Below w.heap.size w x→∀(k:Nat) (q:Pj),ps[k]?=some q→JbAt x g (o+k*8) q.jb):=hrow
 have HACS:Hid (∀x,Below w.heap.size w x→∀(k:Nat) (a:Ac),la[k]?=some a→AcAt x ga (oa+k*5) a):=fun x b k a ha=>(hca k a ha).below b
 have HSL:Hid (∀p∈ps,p.v.set.length*8≤140737488355328):=h.sl
 have HNM:Hid (∀a∈la,a.nm.size≤maxLen):=h.nm
 have hl1:=h.l48
 have hl2:=h.l80
 obtain⟨L,hL⟩:∃L,la.length=L:=⟨_,rfl⟩
 obtain⟨N,hN⟩:∃N,ps.length=N:=⟨_,rfl⟩
 have HNN:Hid (ps.length=N):=hN
 have HLL:Hid (la.length=L):=hL
 rw [hL]at hl1 hga ⊢
 rw [hN]at hl2 hg ⊢
 have HG:Hid (0<N→jo=some ⟨g,o,none⟩):=hg
 have HGA:Hid (0<L→ao=some ⟨ga,oa,none⟩):=hga
 clear h hrow hg hga hca hL hN
 unfold stL
 obtain⟨W,hW⟩:∃W,w.alloc (.cells #[.int .i64 c.nodes,.int .i64 c.queue,.int .i64 c.limit,.int .i64 c.age,.int .i64 c.fair,.int .i64 c.size,.int .i64 c.period,.int .i64 c.half,.int .i64 now,.slice ao L ca,.slice jo N cj,.int .i64 hd] 27)=W:=⟨_,rfl⟩
 have HBW:Hid (Below w.heap.size w W):=by rw [← hW];exact(Below.refl _ w).alloc (Nat.le_refl _) _
 have c9:W.cell? ⟨w.heap.size,9,none⟩=some (.slice ao L ca):=by rw [← hW];exact cells_at (heap_alloc_new w _) rfl
 have c10:W.cell? ⟨w.heap.size,10,none⟩=some (.slice jo N cj):=by rw [← hW];exact cells_at (heap_alloc_new w _) rfl
 have HN0:Hid (byN la ps=100+byA la+byJ ps):=rfl
 go_enter Tryz.func8,Tryz.ntmps8
 go_wp2
 clear hW
 go_loopg [3,4] L (fun gk ps' pk wr=>∃(i:Nat),i+gk=L∧pk=.int .i64 i∧ps'=.int .i64 (satV (100+byA (la.take i)))∧W=wr)
 case atStart=>exact⟨0,by omega,rfl,rfl,rfl⟩
 case round=>
  obtain⟨i,hi,rfl,rfl,rfl⟩:=hrel
  have HLE:Hid (byA (la.take i)≤byA la):=byA_le la i
  by_cases hlt:i<L
  ·have hlt':(i:Int)<L:=by omega
   obtain⟨p,hp⟩:∃p,la[i]?=some p:=⟨_,List.getElem?_eq_getElem (by rw [HLL.out];exact hlt)⟩
   by_cases hm:100+byA (la.take i)≤2147483647
   ·have hs:satV (100+byA (la.take i))≤2147483647:=by rw [sat_low hm];omega
    obtain rfl:=HGA.out (by omega)
    have d0:=(HACS.out W HBW.out i p hp).nm
    have HST:Hid (byA (la.take (i+1))=byA (la.take i)+(p.nm.size+50)):=byA_take hp
    have HM:Hid _:=more_any (w:=W) (100+byA (la.take i)) p.nm.size
    have HM2:Hid _:=more_any (w:=W) (100+byA (la.take i)+p.nm.size) 50
    clear hp
    generalize satV (100+byA (la.take i))=S at *
    go_upto_region 6 with(go_at_call 22;refine(show Calls _ _ _ _ _ from HM.out).mono ?_;rintro e w1 ⟨rfl,h1⟩;obtain rfl:=h1.symm)
    go_wp2_with (go_at_call 22;refine(show Calls _ _ _ _ _ from HM2.out).mono ?_;rintro e w1 ⟨rfl,h1⟩;obtain rfl:=h1.symm)
    go_roundg (L - (i+1))
    case measure=>omega
    case rel=>exact⟨i+1,by omega,rfl,by rw [HST.out,show 100+(byA (la.take i)+(p.nm.size+50))=100+byA (la.take i)+p.nm.size+50 by omega],rfl⟩
   ·have hbig:satV (100+byA (la.take i))=2147483648:=sat_big (by omega)
    have HT:Hid (decide (2147483647<byN la ps)=true):=decide_eq_true (by rw [HN0.out];have:=HLE.out;omega)
    rw [hbig]
    clear hbig hp
    go_wp2
    go_loopg [3,5] 0 (fun gk s p wr=>gk=0∧s=.int .i64 2147483648∧p=.int .i64 0∧W=wr)
    case atStart=>exact⟨rfl,rfl,rfl,rfl⟩
    case round=>
     obtain⟨rfl,rfl,rfl,rfl⟩:=hrel
     by_cases h0:0<N
     ·have h0':(0:Int)<N:=by omega
      go_wp2
      go_ret
      exact⟨by rw [HT.out];rfl,HBW.out⟩
     ·obtain rfl:N=0:=by omega
      go_wp2
      go_ret
      exact⟨by rw [HT.out];rfl,HBW.out⟩
  ·have hlt':¬(i:Int)<L:=by omega
   have hall:la.take i=la:=List.take_of_length_le (by rw [HLL.out];omega)
   rw [hall]
   clear hall HLE
   go_wp2
   go_loopg [3,5] N (fun gk s p wr=>∃(j:Nat),j+gk=N∧p=.int .i64 j∧s=.int .i64 (satV (100+byA la+byJ (ps.take j)))∧W=wr)
   case atStart=>exact⟨0,by omega,rfl,rfl,rfl⟩
   case round=>
    obtain⟨j,hj,rfl,rfl,rfl⟩:=hrel
    have HLE:Hid (byJ (ps.take j)≤byJ ps):=byJ_le ps j
    by_cases hjt:j<N
    ·have hjt':(j:Int)<N:=by omega
     obtain⟨p,hp⟩:∃p,ps[j]?=some p:=⟨_,List.getElem?_eq_getElem (by rw [HNN.out];exact hjt)⟩
     have HST:Hid (byJ (ps.take (j+1))=byJ (ps.take j)+(p.v.set.length*8+70)):=byJ_take hp
     have HLE2:Hid (byJ (ps.take (j+1))≤byJ ps):=byJ_le ps (j+1)
     by_cases hm:100+byA la+byJ (ps.take j)≤2147483647
     ·have hs:satV (100+byA la+byJ (ps.take j))≤2147483647:=by rw [sat_low hm];omega
      obtain rfl:=HG.out (by omega)
      have d7:=(HROW.out W HBW.out j p hp).se
      have HP8:Hid (p.v.set.length*8≤140737488355328):=HSL.out p (List.mem_of_getElem? hp)
      clear hp
      obtain⟨⟨ac,nd,lm,sb,st,sr,en,xs⟩,sa,sc⟩:=p
      dsimp only [Pj.jb]at d7 HST HP8
      by_cases hg:268435455<xs.length
      ·have hg':(268435455:Int)<xs.length:=by omega
       have HT:Hid (decide (2147483647<byN la ps)=true):=decide_eq_true (by rw [HN0.out];have:=HLE2.out;have:=HST.out;omega)
       generalize satV (100+byA la+byJ (ps.take j))=S at *
       go_wp2
       go_ret
       exact⟨by rw [HT.out];rfl,HBW.out⟩
      ·have hg':¬(268435455:Int)<xs.length:=by omega
       have hw:IntKind.i64.wrap (8*(xs.length:Int))=((xs.length*8:Nat):Int):=by rw [IntKind.wrap_i64];omega
       have HM:Hid _:=more_any (w:=W) (100+byA la+byJ (ps.take j)) (xs.length*8)
       have HM2:Hid _:=more_any (w:=W) (100+byA la+byJ (ps.take j)+xs.length*8) 70
       generalize satV (100+byA la+byJ (ps.take j))=S at *
       go_upto_region 13 with(go_at_call 22;refine(show Calls _ _ _ _ _ from HM.out).mono ?_;rintro e w1 ⟨rfl,h1⟩;obtain rfl:=h1.symm)
       go_wp2_with (go_at_call 22;refine(show Calls _ _ _ _ _ from HM2.out).mono ?_;rintro e w1 ⟨rfl,h1⟩;obtain rfl:=h1.symm)
       go_roundg (N - (j+1))
       case measure=>omega
       case rel=>exact⟨j+1,by omega,rfl,by rw [HST.out,show 100+byA la+(byJ (ps.take j)+(xs.length*8+70))=100+byA la+byJ (ps.take j)+xs.length*8+70 by omega],rfl⟩
     ·have hbig:satV (100+byA la+byJ (ps.take j))=2147483648:=sat_big (by omega)
      have HT:Hid (decide (2147483647<byN la ps)=true):=decide_eq_true (by rw [HN0.out];have:=HLE.out;omega)
      rw [hbig]
      clear hbig hp
      go_wp2
      go_ret
      exact⟨by rw [HT.out];rfl,HBW.out⟩
    ·have hjt':¬(j:Int)<N:=by omega
     have hall:ps.take j=ps:=List.take_of_length_le (by rw [HNN.out];omega)
     rw [hall]
     clear hall HLE
     by_cases hm:2147483647<byN la ps
     ·have HT:Hid (decide (2147483647<byN la ps)=true):=decide_eq_true hm
      rw [show satV (100+byA la+byJ ps)=2147483648 from sat_big hm]
      clear hm
      go_wp2
      go_ret
      exact⟨by rw [HT.out];rfl,HBW.out⟩
     ·have HT:Hid (decide (2147483647<byN la ps)=false):=decide_eq_false hm
      have hn:¬(2147483647:Int)<satV (100+byA la+byJ ps):=by
       have h9:100+byA la+byJ ps≤2147483647:=Nat.le_of_not_lt hm
       rw [sat_low h9]
       omega
      clear hm
      generalize satV (100+byA la+byJ ps)=S at *
      go_wp2
      go_ret
      exact⟨by rw [HT.out];rfl,HBW.out⟩
end Go.Proofs.YtceoibfliggalaaGreatDoor
