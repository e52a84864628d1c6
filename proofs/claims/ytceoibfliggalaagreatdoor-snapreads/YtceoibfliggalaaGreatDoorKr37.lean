/-
  TEXTS: AdD, AdE.
-/
import Derived.Test.YtceoibfliggalaaGreatDoorKr34
import Derived.Test.YtceoibfliggalaaGreatDoorKr14
import Derived.Test.YtceoibfliggalaaGreatDoorKr36
import Derived.Test.YtceoibfliggalaaGreatDoorKr33
import Derived.Test.YtceoibfliggalaaGreatDoorKr5
import Derived.Test.YtceoibfliggalaaGreatDoorKr25
import Derived.Test.YtceoibfliggalaaGreatDoorKr9
namespace Go.Proofs.YtceoibfliggalaaGreatDoor
open Go.RowKit Wd Tr Cg Lg
set_option maxHeartbeats 4000000 in
set_option maxRecDepth 20000 in
theorem needJobs_any {w:World} (c:Cf) (hck:chkZ c=0) (now:Int) (hn0:0≤now) (hnow:now≤1099511627776) (ao:Option Addr) (na ca:Nat) (hna:na≤140737488355328) {jo:Option Addr} {ps:List Pj} (cj:Nat) (hd:Int) (hJ:PjsAt w jo ps) (hl:ps.length≤140737488355328) (hsl:∀p∈ps,p.v.set.length≤140737488355328):
  Calls Tryz.prog 50 #[.agg (stL c now ao na ca jo ps.length cj hd)] w fun e w'=>e=asksE (decide (ps.length≤4096)&&jobsB c now na (ps.map Pj.v) ps.length) 174∧Below w.heap.size w w':=by
 obtain⟨r,hm0,_⟩:=chk_ok hck
 have hbb:=bound_box r
 have hlim:=r.l1
 obtain⟨n,hn⟩:∃n:Nat,c.nodes=(n:Int):=⟨c.nodes.toNat,by have:=r.n0;omega⟩
 have HNN:Hid (c.nodes=(n:Int)∧1≤n∧n≤256):=⟨hn,by have:=r.n0;omega,by have:=r.n1;omega⟩
 clear hn hm0
 have cB:=pBound_yes hck
 have cF:=from_any
 have cQ:=need_any
 obtain⟨g,o,hg,hrow⟩:=row_at hJ
 have HROW:Hid (∀x,Below w.heap.size w x→∀(k:Nat) (q:Pj),ps[k]?=some q→JbAt x g (o+k*8) q.jb):=hrow
 have HTM:Hid (∀x (p:Pj),0≤p.v.sb→p.v.sb≤1099511627776→1≤p.v.lm→p.v.lm≤1048576→Calls Tryz.prog 106 #[pjV p,.int .i64 now] x fun e w'=>e=asksE (timB now p.v) 174∧Below x.heap.size x w'):=fun x p h1 h2 h3 h4=>needTimes_any p now h1 h2 hnow h3 h4
 have HST:Hid (∀x,Below w.heap.size w x→∀p∈ps,Calls Tryz.prog 107 #[pjV p,cfV c] x fun e w'=>e=asksE (setsB c.nodes p.v) 174∧Below x.heap.size x w'):=fun x hx p hp=>needSet_any c p n HNN.out.1 HNN.out.2.1 HNN.out.2.2 ((hJ.sets p hp).below hx) (hsl p hp)
 have HGET:Hid (∀k,k<ps.length→∃q,ps[k]?=some q):=fun k hk=>⟨_,List.getElem?_eq_getElem hk⟩
 obtain⟨AV,hAV⟩:∃AV,asksE (decide (ps.length≤4096)&&jobsB c now na (ps.map Pj.v) ps.length) 174=AV:=⟨_,rfl⟩
 have HAV:Hid (asksE (decide (ps.length≤4096)&&jobsB c now na (ps.map Pj.v) ps.length) 174=AV):=hAV
 rw [hAV]
 clear hAV
 have HVM:Hid (∀(k:Nat) (q:Pj),ps[k]?=some q→(ps.map Pj.v)[k]?=some q.v):=fun k q h=>vmap_at h
 obtain⟨vs,hvs⟩:∃vs,ps.map Pj.v=vs:=⟨_,rfl⟩
 rw [hvs]at HAV HVM
 clear hvs
 obtain⟨N,hN⟩:∃N,ps.length=N:=⟨_,rfl⟩
 rw [hN]at hl hg HGET HAV ⊢
 have HG:Hid (0<N→jo=some ⟨g,o,none⟩):=hg
 clear hN hg hrow hJ hsl
 have hbB:=hbb.2.2
 obtain⟨B,hB⟩:∃B,boundZ c=B:=⟨_,rfl⟩
 have HBd:Hid (boundZ c=B):=hB
 rw [hB]at cB hbB
 obtain⟨hb1,hb2⟩:=hbB
 clear hB hbb hck
 unfold stL
 unfold cfV at cB
 obtain⟨W,hW⟩:∃W,w.alloc (.cells #[.int .i64 c.nodes,.int .i64 c.queue,.int .i64 c.limit,.int .i64 c.age,.int .i64 c.fair,.int .i64 c.size,.int .i64 c.period,.int .i64 c.half,.int .i64 now,.slice ao na ca,.slice jo N cj,.int .i64 hd] 27)=W:=⟨_,rfl⟩
 have HBW:Hid (Below w.heap.size w W):=by show Below w.heap.size w W;rw [← hW];exact(Below.refl _ w).alloc (Nat.le_refl _) _
 have k0:W.cell? ⟨w.heap.size,0,none⟩=some (.int .i64 c.nodes):=by rw [← hW];exact cells_at (heap_alloc_new w _) rfl
 have k1:W.cell? ⟨w.heap.size,1,none⟩=some (.int .i64 c.queue):=by rw [← hW];exact cells_at (heap_alloc_new w _) rfl
 have k2:W.cell? ⟨w.heap.size,2,none⟩=some (.int .i64 c.limit):=by rw [← hW];exact cells_at (heap_alloc_new w _) rfl
 have k3:W.cell? ⟨w.heap.size,3,none⟩=some (.int .i64 c.age):=by rw [← hW];exact cells_at (heap_alloc_new w _) rfl
 have k4:W.cell? ⟨w.heap.size,4,none⟩=some (.int .i64 c.fair):=by rw [← hW];exact cells_at (heap_alloc_new w _) rfl
 have k5:W.cell? ⟨w.heap.size,5,none⟩=some (.int .i64 c.size):=by rw [← hW];exact cells_at (heap_alloc_new w _) rfl
 have k6:W.cell? ⟨w.heap.size,6,none⟩=some (.int .i64 c.period):=by rw [← hW];exact cells_at (heap_alloc_new w _) rfl
 have k7:W.cell? ⟨w.heap.size,7,none⟩=some (.int .i64 c.half):=by rw [← hW];exact cells_at (heap_alloc_new w _) rfl
 have k8:W.cell? ⟨w.heap.size,8,none⟩=some (.int .i64 now):=by rw [← hW];exact cells_at (heap_alloc_new w _) rfl
 have k9:W.cell? ⟨w.heap.size,9,none⟩=some (.slice ao na ca):=by rw [← hW];exact cells_at (heap_alloc_new w _) rfl
 have k10:W.cell? ⟨w.heap.size,10,none⟩=some (.slice jo N cj):=by rw [← hW];exact cells_at (heap_alloc_new w _) rfl
 have k11:W.cell? ⟨w.heap.size,11,none⟩=some (.int .i64 hd):=by rw [← hW];exact cells_at (heap_alloc_new w _) rfl
 by_cases h4:N≤4096
 ·have h4':(N:Int)≤4096:=by omega
  have e4:decide ((N:Int)≤4096)=true:=decide_eq_true h4'
  replace HAV:Hid (asksE (jobsB c now na vs N) 174=AV):=by show _=AV;rw [← HAV.out,decide_eq_true h4];rfl
  go_enter Tryz.func50,Tryz.ntmps50
  go_upto_region 2 with(go_at_call 103;refine(cQ _ _ _).mono ?_;rintro e w1 ⟨rfl,hw1⟩;obtain rfl:=hw1.symm;(first | rw [e4] | skip);rw [asksE_yes])
  try rw [hW]
  clear hW e4 h4'
  obtain⟨last,hlast⟩:∃last,min now (1099511627776 - B)=last:=⟨_,rfl⟩
  have HLAST:Hid (min now (1099511627776 - B)=last):=hlast
  clear hlast
  go_cut [2,3] (fun v1 v2 x=>v1=.int .i64 0∧v2=.int .i64 last∧Below W.heap.size W x)
  case first=>
   have hwB:IntKind.i64.wrap (1099511627776 - B)=1099511627776 - B:=by rw [IntKind.wrap_i64];omega
   by_cases hm:1099511627776 - B<now
   ·have HL2:Hid (1099511627776 - B=last):=by show 1099511627776 - B=last;rw [← HLAST.out];clear hwB;omega
    refine wp_region_last (S:=(fun x':World=>Below W.heap.size W x')) (L:=99) (by kernel_rfl) ?_
    have HSW0:(fun x':World=>Below W.heap.size W x') (W.drew):=drew_below W
    have HF:Hid (∀xx:World,(fun x':World=>Below W.heap.size W x') xx→_∧_∧_∧_∧_∧_∧_∧_∧_∧True):=fun xx hSx=>⟨cellB hSx k0,cellB hSx k1,cellB hSx k2,cellB hSx k3,cellB hSx k4,cellB hSx k5,cellB hSx k6,cellB hSx k7,cellB hSx k8,trivial⟩
    refine tk 0 HSW0 (h:=?_)
    refine tk 1 HSW0 (h:=?_)
    refine tk 2 HSW0 (h:=?_)
    refine tk 3 HSW0 (h:=?_)
    refine last_one (i:=4) (by kernel_rfl) rfl ?_
    intro K hK
    go_simp
    go_at_call 105
    refine(cB _).mono ?_
    rintro e Z1 ⟨rfl,bz1⟩
    have HSZ1:(fun x':World=>Below W.heap.size W x') Z1:=HSW0.trans (bz1.mono HSW0.size)
    go_simp
    refine hK.out _ _ (fun _=>HSZ1) (fun _=>?_)
    clear hK K HSW0
    refine tk 5 HSZ1 (h:=?_)
    try rw [hwB]
    refine tk 6 HSZ1 (h:=?_)
    refine tk 7 HSZ1 (h:=?_)
    refine tk 8 HSZ1 (h:=?_)
    refine last_done (by kernel_rfl) ?_ _
    have HSX:Hid (Below W.heap.size W Z1):=HSZ1
    clear HSZ1 bz1
    go_wp2
    go_meet
    exact⟨rfl,by rw [HL2.out],HSX.out⟩
   ·have HL2:Hid (now=last):=by show now=last;rw [← HLAST.out];clear hwB;omega
    refine wp_region_last (S:=(fun x':World=>Below W.heap.size W x')) (L:=99) (by kernel_rfl) ?_
    have HSW0:(fun x':World=>Below W.heap.size W x') (W.drew):=drew_below W
    have HF:Hid (∀xx:World,(fun x':World=>Below W.heap.size W x') xx→_∧_∧_∧_∧_∧_∧_∧_∧_∧True):=fun xx hSx=>⟨cellB hSx k0,cellB hSx k1,cellB hSx k2,cellB hSx k3,cellB hSx k4,cellB hSx k5,cellB hSx k6,cellB hSx k7,cellB hSx k8,trivial⟩
    refine tk 0 HSW0 (h:=?_)
    refine tk 1 HSW0 (h:=?_)
    refine tk 2 HSW0 (h:=?_)
    refine tk 3 HSW0 (h:=?_)
    refine last_one (i:=4) (by kernel_rfl) rfl ?_
    intro K hK
    go_simp
    go_at_call 105
    refine(cB _).mono ?_
    rintro e Z1 ⟨rfl,bz1⟩
    have HSZ1:(fun x':World=>Below W.heap.size W x') Z1:=HSW0.trans (bz1.mono HSW0.size)
    go_simp
    refine hK.out _ _ (fun _=>HSZ1) (fun _=>?_)
    clear hK K HSW0
    refine tk 5 HSZ1 (h:=?_)
    try rw [hwB]
    refine tk 6 HSZ1 (h:=?_)
    refine tk 7 HSZ1 (h:=?_)
    refine tk 8 HSZ1 (h:=?_)
    refine last_done (by kernel_rfl) ?_ _
    have HSX:Hid (Below W.heap.size W Z1):=HSZ1
    clear HSZ1 bz1
    go_wp2
    go_meet
    exact⟨rfl,by rw [HL2.out],HSX.out⟩
  case rest=>
  obtain⟨rfl,rfl,hx⟩:=hcut
  have HXB:Hid (Below W.heap.size W wc):=hx
  obtain⟨V,hV⟩:∃V:World,V=wc:=⟨_,rfl⟩
  rw [← hV]at HXB
  rw [← hV]
  clear hV hx
  have p0:=cellB HXB.out k0
  have p1:=cellB HXB.out k1
  have p2:=cellB HXB.out k2
  have p3:=cellB HXB.out k3
  have p4:=cellB HXB.out k4
  have p5:=cellB HXB.out k5
  have p6:=cellB HXB.out k6
  have p7:=cellB HXB.out k7
  have p8:=cellB HXB.out k8
  have p9:=cellB HXB.out k9
  have p10:=cellB HXB.out k10
  have p11:=cellB HXB.out k11
  go_upto_region 3 with fail
  go_wp2
  clear p0 p1 p2 p3 p4 p5 p6 p7 p8 p9 p10 p11
  go_loopg [2,21] N (fun gk v1 v2 wr=>∃k:Nat,k+gk=N∧v1=.int .i64 (aheadOf vs k)∧v2=.int .i64 (k:Int)∧0≤aheadOf vs k∧jobsB c now na vs k=true∧Below W.heap.size W wr)
  case atStart=>exact⟨0,by omega,by rw [ahead_zero],rfl,by rw [ahead_zero];omega,rfl,HXB.out⟩
  case round=>
   obtain⟨k,hk,rfl,rfl,hp0,hjb,hbr⟩:=hrel
   have HBR:Hid (Below W.heap.size W wr):=hbr
   have HB2:Hid (Below w.heap.size w wr):=HBW.out.trans (hbr.mono HBW.out.size)
   have HJB:Hid (jobsB c now na vs k=true∧k+gk=N):=⟨hjb,hk⟩
   clear hbr hjb HXB
   by_cases hlt:k<N
   ·have hlt':(k:Int)<(N:Int):=by omega
    obtain⟨p,hp⟩:=HGET.out k hlt
    obtain rfl:=HG.out (by omega)
    obtain⟨y0,y1,y2,y3,y4,y5,y6,y7⟩:=HROW.out wr HB2.out k p hp
    have HFL:Hid (jobB c now na (aheadOf vs k) p.v=false→AV=.panicked (thrown 174)):=by
     intro hf
     rw [← HAV.out]
     have:jobsB c now na vs N=false:=by
      cases h:jobsB c now na vs N with
      | false=>rfl
      | true=>have:=jobs_iff.1 h k hlt p.v (HVM.out k p hp);rw [hf]at this;cases this
     rw [this];rfl
    have HTR:Hid (jobB c now na (aheadOf vs k) p.v=true→jobsB c now na vs (k+1)=true):=by
     intro ht
     rw [jobs_succ (HVM.out k p hp),HJB.out.1,ht];rfl
    have HAH:Hid (aheadOf vs (k+1)=p.v.sb):=ahead_succ (HVM.out k p hp)
    have HEQ:Hid (jobB c now na (aheadOf vs k) p.v=(partB c now na (aheadOf vs k) p.v&&(timB now p.v&&setsB c.nodes p.v))):=job_eq hp0
    have HTM2:Hid (∀x,0≤p.v.sb→p.v.sb≤1099511627776→1≤p.v.lm→p.v.lm≤1048576→Calls Tryz.prog 106 #[pjV p,.int .i64 now] x fun e w'=>e=asksE (timB now p.v) 174∧Below x.heap.size x w'):=fun x=>HTM.out x p
    have HST2:Hid (∀x,Below w.heap.size w x→Calls Tryz.prog 107 #[pjV p,cfV c] x fun e w'=>e=asksE (setsB c.nodes p.v) 174∧Below x.heap.size x w'):=fun x hx=>HST.out x hx p (List.mem_of_getElem? hp)
    unfold partB at HEQ
    rw [HBd.out,HLAST.out]at HEQ
    clear hp
    obtain⟨⟨ac,nd,lm,sb,st,sr,en,xs⟩,sa,sc⟩:=p
    dsimp only [Pj.jb]at y0 y1 y2 y3 y4 y5 y6 y7 HFL HTR HAH HEQ HTM2 HST2
    obtain⟨TB,hTB⟩:∃TB,timB now ⟨ac,nd,lm,sb,st,sr,en,xs⟩=TB:=⟨_,rfl⟩
    obtain⟨SB,hSB⟩:∃SB,setsB c.nodes ⟨ac,nd,lm,sb,st,sr,en,xs⟩=SB:=⟨_,rfl⟩
    obtain⟨JBV,hJBV⟩:∃JBV,jobB c now na (aheadOf vs k) ⟨ac,nd,lm,sb,st,sr,en,xs⟩=JBV:=⟨_,rfl⟩
    rw [hTB]at HTM2 HEQ
    rw [hSB]at HST2 HEQ
    rw [hJBV]at HFL HTR HEQ
    unfold pjV at HTM2 HST2
    unfold cfV at HST2
    dsimp only at HTM2 HST2
    clear hTB hSB hJBV
    obtain⟨ah,hah⟩:∃ah,aheadOf vs k=ah:=⟨_,rfl⟩
    rw [hah]at HEQ hp0 ⊢
    clear hah
    obtain⟨X,hX⟩:∃X,wr.alloc (.cells #[.int .i64 ac,.int .i64 nd,.int .i64 lm,.int .i64 sb,.int .i64 st,.int .i64 sr,.int .i64 en,.slice sa xs.length sc] 55)=X:=⟨_,rfl⟩
    have HBX:Hid (Below w.heap.size w X∧Below W.heap.size W X):=by
     have h0:Below wr.heap.size wr X:=by rw [← hX];exact(Below.refl _ wr).alloc (Nat.le_refl _) _
     exact⟨HB2.out.trans (h0.mono HB2.out.size),HBR.out.trans (h0.mono HBR.out.size)⟩
    have n0:X.cell? ⟨wr.heap.size,0,none⟩=some (.int .i64 ac):=by rw [← hX];exact cells_at (heap_alloc_new wr _) rfl
    have n1:X.cell? ⟨wr.heap.size,1,none⟩=some (.int .i64 nd):=by rw [← hX];exact cells_at (heap_alloc_new wr _) rfl
    have n2:X.cell? ⟨wr.heap.size,2,none⟩=some (.int .i64 lm):=by rw [← hX];exact cells_at (heap_alloc_new wr _) rfl
    have n3:X.cell? ⟨wr.heap.size,3,none⟩=some (.int .i64 sb):=by rw [← hX];exact cells_at (heap_alloc_new wr _) rfl
    have n4:X.cell? ⟨wr.heap.size,4,none⟩=some (.int .i64 st):=by rw [← hX];exact cells_at (heap_alloc_new wr _) rfl
    have n5:X.cell? ⟨wr.heap.size,5,none⟩=some (.int .i64 sr):=by rw [← hX];exact cells_at (heap_alloc_new wr _) rfl
    have n6:X.cell? ⟨wr.heap.size,6,none⟩=some (.int .i64 en):=by rw [← hX];exact cells_at (heap_alloc_new wr _) rfl
    have n7:X.cell? ⟨wr.heap.size,7,none⟩=some (.slice sa xs.length sc):=by rw [← hX];exact cells_at (heap_alloc_new wr _) rfl
    have m0:=cellB HBX.out.2 k0
    have m1:=cellB HBX.out.2 k1
    have m2:=cellB HBX.out.2 k2
    have m3:=cellB HBX.out.2 k3
    have m4:=cellB HBX.out.2 k4
    have m5:=cellB HBX.out.2 k5
    have m6:=cellB HBX.out.2 k6
    have m7:=cellB HBX.out.2 k7
    have m8:=cellB HBX.out.2 k8
    have m9:=cellB HBX.out.2 k9
    have m10:=cellB HBX.out.2 k10
    have m11:=cellB HBX.out.2 k11
    have q10:=cellB HBR.out k10
    go_upto_region 6 with fail
    try rw [hX]
    clear hX y0 y1 y2 y3 y4 y5 y6 y7 q10
    have hw1:wrap64 ((na:Int) - 1)=(na:Int) - 1:=by unfold wrap64;omega
    have HW1:Hid (wrap64 ((na:Int) - 1)=(na:Int) - 1):=hw1
    clear hw1
    cases a1:fromB 1 ((na:Int) - 1) ac with
    | false=>
     have HAA:Hid (AV=.panicked (thrown 174)):=HFL.out (by rw [HEQ.out];simp only [a1];rfl)
     clear HTR HFL
     go_wp2_with (first | (go_at_call 104;refine(cF _ _ _ _).mono ?_;rintro e w1 ⟨rfl,hw1⟩;obtain rfl:=hw1.symm;(first | rw [a1] | (rw [HW1.out,a1]))) | (go_at_call 103;refine(cQ _ _ _).mono ?_;rintro e w1 ⟨rfl,hw1⟩;obtain rfl:=hw1.symm;first | rw [asksE_yes] | rw [asksE_no]))
     (try simp only [Exit.inBlock,Exit.then])
     exact⟨rfl,HAA.out.symm,HBX.out.1⟩
    | true=>
    go_upto_region 7 with(first | (go_at_call 104;refine(cF _ _ _ _).mono ?_;rintro e w1 ⟨rfl,hw1⟩;obtain rfl:=hw1.symm;(first | rw [a1] | (rw [HW1.out,a1]))) | (go_at_call 103;refine(cQ _ _ _).mono ?_;rintro e w1 ⟨rfl,hw1⟩;obtain rfl:=hw1.symm;first | rw [asksE_yes] | rw [asksE_no]))
    cases a2:fromB 1 c.nodes nd with
    | false=>
     have HAA:Hid (AV=.panicked (thrown 174)):=HFL.out (by rw [HEQ.out];simp only [a1,a2];rfl)
     clear HTR HFL
     go_wp2_with (first | (go_at_call 104;refine(cF _ _ _ _).mono ?_;rintro e w1 ⟨rfl,hw1⟩;obtain rfl:=hw1.symm;(first | rw [a2] | (rw [HW1.out,a2]))) | (go_at_call 103;refine(cQ _ _ _).mono ?_;rintro e w1 ⟨rfl,hw1⟩;obtain rfl:=hw1.symm;first | rw [asksE_yes] | rw [asksE_no]))
     (try simp only [Exit.inBlock,Exit.then])
     exact⟨rfl,HAA.out.symm,HBX.out.1⟩
    | true=>
    go_upto_region 8 with(first | (go_at_call 104;refine(cF _ _ _ _).mono ?_;rintro e w1 ⟨rfl,hw1⟩;obtain rfl:=hw1.symm;(first | rw [a2] | (rw [HW1.out,a2]))) | (go_at_call 103;refine(cQ _ _ _).mono ?_;rintro e w1 ⟨rfl,hw1⟩;obtain rfl:=hw1.symm;first | rw [asksE_yes] | rw [asksE_no]))
    cases a3:fromB 1 c.limit lm with
    | false=>
     have HAA:Hid (AV=.panicked (thrown 174)):=HFL.out (by rw [HEQ.out];simp only [a1,a2,a3];rfl)
     clear HTR HFL
     go_wp2_with (first | (go_at_call 104;refine(cF _ _ _ _).mono ?_;rintro e w1 ⟨rfl,hw1⟩;obtain rfl:=hw1.symm;(first | rw [a3] | (rw [HW1.out,a3]))) | (go_at_call 103;refine(cQ _ _ _).mono ?_;rintro e w1 ⟨rfl,hw1⟩;obtain rfl:=hw1.symm;first | rw [asksE_yes] | rw [asksE_no]))
     (try simp only [Exit.inBlock,Exit.then])
     exact⟨rfl,HAA.out.symm,HBX.out.1⟩
    | true=>
    go_upto_region 9 with(first | (go_at_call 104;refine(cF _ _ _ _).mono ?_;rintro e w1 ⟨rfl,hw1⟩;obtain rfl:=hw1.symm;(first | rw [a3] | (rw [HW1.out,a3]))) | (go_at_call 103;refine(cQ _ _ _).mono ?_;rintro e w1 ⟨rfl,hw1⟩;obtain rfl:=hw1.symm;first | rw [asksE_yes] | rw [asksE_no]))
    cases a4:fromB ah last sb with
    | false=>
     have HAA:Hid (AV=.panicked (thrown 174)):=HFL.out (by rw [HEQ.out];simp only [a1,a2,a3,a4];rfl)
     clear HTR HFL
     go_wp2_with (first | (go_at_call 104;refine(cF _ _ _ _).mono ?_;rintro e w1 ⟨rfl,hw1⟩;obtain rfl:=hw1.symm;(first | rw [a4] | (rw [HW1.out,a4]))) | (go_at_call 103;refine(cQ _ _ _).mono ?_;rintro e w1 ⟨rfl,hw1⟩;obtain rfl:=hw1.symm;first | rw [asksE_yes] | rw [asksE_no]))
     (try simp only [Exit.inBlock,Exit.then])
     exact⟨rfl,HAA.out.symm,HBX.out.1⟩
    | true=>
    go_upto_region 10 with(first | (go_at_call 104;refine(cF _ _ _ _).mono ?_;rintro e w1 ⟨rfl,hw1⟩;obtain rfl:=hw1.symm;(first | rw [a4] | (rw [HW1.out,a4]))) | (go_at_call 103;refine(cQ _ _ _).mono ?_;rintro e w1 ⟨rfl,hw1⟩;obtain rfl:=hw1.symm;first | rw [asksE_yes] | rw [asksE_no]))
    have b3:1≤lm∧lm≤c.limit:=by simpa [fromB]using a3
    have b4:ah≤sb∧sb≤last:=by simpa [fromB]using a4
    have HTC:=fun x=>HTM2.out x (by omega) (by have:=HLAST.out;omega) b3.1 (by omega)
    replace HEQ:Hid (JBV=(TB&&SB)):=by show JBV=_;rw [HEQ.out];simp only [a1,a2,a3,a4];rfl
    have HSB0:Hid (0≤sb):=by show 0≤sb;omega
    clear a1 a2 a3 a4 b3 b4
    cases TB with
    | false=>
     have HAA:Hid (AV=.panicked (thrown 174)):=HFL.out (by rw [HEQ.out];rfl)
     rw [asksE_no]at HTC
     go_wp2_with (go_at_call 106;refine(HTC _).mono ?_;rintro e w1 ⟨rfl,hb1⟩)
     (try simp only [Exit.inBlock,Exit.then])
     exact⟨rfl,HAA.out.symm,HBX.out.1.trans (hb1.mono HBX.out.1.size)⟩
    | true=>
    rw [asksE_yes]at HTC
    go_upto_region 11 with(go_at_call 106;refine(HTC _).mono ?_;rintro e Y1 ⟨rfl,hb1⟩)
    have HBY:Hid (Below w.heap.size w Y1∧Below W.heap.size W Y1):=⟨HBX.out.1.trans (hb1.mono HBX.out.1.size),HBX.out.2.trans (hb1.mono HBX.out.2.size)⟩
    replace n0:=cellB hb1 n0
    replace n1:=cellB hb1 n1
    replace n2:=cellB hb1 n2
    replace n3:=cellB hb1 n3
    replace n4:=cellB hb1 n4
    replace n5:=cellB hb1 n5
    replace n6:=cellB hb1 n6
    replace n7:=cellB hb1 n7
    replace m0:=cellB hb1 m0
    replace m1:=cellB hb1 m1
    replace m2:=cellB hb1 m2
    replace m3:=cellB hb1 m3
    replace m4:=cellB hb1 m4
    replace m5:=cellB hb1 m5
    replace m6:=cellB hb1 m6
    replace m7:=cellB hb1 m7
    replace m8:=cellB hb1 m8
    replace m9:=cellB hb1 m9
    replace m10:=cellB hb1 m10
    replace m11:=cellB hb1 m11
    clear hb1 HTC HTM2
    have HSC:=HST2.out Y1 HBY.out.1
    clear HST2
    cases SB with
    | false=>
     have HAA:Hid (AV=.panicked (thrown 174)):=HFL.out (by rw [HEQ.out];rfl)
     rw [asksE_no]at HSC
     go_wp2_with (go_at_call 107;refine HSC.mono ?_;rintro e w1 ⟨rfl,hb2⟩)
     (try simp only [Exit.inBlock,Exit.then])
     exact⟨rfl,HAA.out.symm,HBY.out.1.trans (hb2.mono HBY.out.1.size)⟩
    | true=>
    rw [asksE_yes]at HSC
    have HJ1:Hid (jobsB c now na vs (k+1)=true):=HTR.out (by rw [HEQ.out];rfl)
    go_upto_region 12 with(go_at_call 107;refine HSC.mono ?_;rintro e Y2 ⟨rfl,hb2⟩)
    have HBZ:Hid (Below W.heap.size W Y2):=HBY.out.2.trans (hb2.mono HBY.out.2.size)
    replace n3:=cellB hb2 n3
    clear hb2 HSC
    have HSB:Hid (0≤sb):=by show 0≤sb;have:=HSB0.out;exact this
    have HWK:Hid (wrap64 ((k:Int)+1)=((k+1:Nat):Int)):=by show wrap64 ((k:Int)+1)=((k+1:Nat):Int);unfold wrap64;omega
    go_wp2
    go_roundg (N - (k+1))
    case measure=>have:=HJB.out.2;omega
    case rel=>exact⟨k+1,by omega,by rw [HAH.out],by first | rw [HWK.out] | simp,by rw [HAH.out];exact HSB.out,HJ1.out,HBZ.out⟩
   ·obtain rfl:k=N:=by have:=HJB.out.2;omega
    have HAA:Hid (AV=.returned (.tuple #[])):=by show AV=_;rw [← HAV.out,HJB.out.1];rfl
    go_wp2
    go_end0
    exact⟨HAA.out.symm,HB2.out⟩
 ·have h4':¬(N:Int)≤4096:=by omega
  have e4:decide ((N:Int)≤4096)=false:=decide_eq_false h4'
  have HAA:Hid (AV=.panicked (thrown 174)):=by show AV=_;rw [← HAV.out,decide_eq_false h4];rfl
  go_enter Tryz.func50,Tryz.ntmps50
  go_wp2_with (go_at_call 103;refine(cQ _ _ _).mono ?_;rintro e w1 ⟨rfl,hw1⟩;obtain rfl:=hw1.symm;(first | rw [e4] | skip);rw [asksE_no])
  exact⟨rfl,HAA.out.symm,by first | exact HBW.out | (rw [hW];exact HBW.out)⟩
end Go.Proofs.YtceoibfliggalaaGreatDoor
namespace Go.Proofs.YtceoibfliggalaaGreatDoor
open Go.RowKit Wd Tr Cg Lg
section
variable {w:World} (c:Cf) (now:Int) (ao:Option Addr) (na ca:Nat) (jo:Option Addr) (N cj:Nat) (hd:Int)
set_option maxRecDepth 20000 in
theorem needConfig_any:Calls Tryz.prog 47 #[.agg (stL c now ao na ca jo N cj hd)] w fun e w'=>e=asksE (chkZ c==0) 170∧Below w.heap.size w w':=by
 have cC:=pcheck_any c
 have cQ:=need_any
 unfold stL
 unfold cfV at cC
 generalize chkZ c=q at *
 cases t:(q==0)with
 | true=>
  go_enter Tryz.func47,Tryz.ntmps47
  go_wp2_with (first | (go_at_call 40;refine(cC _).mono ?_;rintro e w1 ⟨rfl,hb⟩) | (go_at_call 103;refine(cQ _ _ _).mono ?_;rintro e w1 ⟨rfl,hw1⟩;obtain rfl:=hw1.symm;(first | rw [t] | skip);first | rw [asksE_yes] | rw [asksE_no]))
  go_end0
  exact⟨rfl,((Below.refl _ w).alloc (Nat.le_refl _) _).trans (hb.mono (by simp))⟩
 | false=>
  go_enter Tryz.func47,Tryz.ntmps47
  go_wp2_with (first | (go_at_call 40;refine(cC _).mono ?_;rintro e w1 ⟨rfl,hb⟩) | (go_at_call 103;refine(cQ _ _ _).mono ?_;rintro e w1 ⟨rfl,hw1⟩;obtain rfl:=hw1.symm;(first | rw [t] | skip);first | rw [asksE_yes] | rw [asksE_no]))
  exact⟨rfl,rfl,((Below.refl _ w).alloc (Nat.le_refl _) _).trans (hb.mono (by simp))⟩
set_option maxRecDepth 20000 in
theorem needClock_any:Calls Tryz.prog 48 #[.agg (stL c now ao na ca jo N cj hd)] w fun e w'=>e=asksE (fromB 0 1099511627776 now) 171∧Below w.heap.size w w':=by
 have cF:=from_any
 have cQ:=need_any
 unfold stL
 cases t:fromB 0 1099511627776 now with
 | true=>
  go_enter Tryz.func48,Tryz.ntmps48
  go_wp2_with (first | (go_at_call 104;refine(cF _ _ _ _).mono ?_;rintro e w1 ⟨rfl,hw1⟩;obtain rfl:=hw1.symm;rw [t]) | (go_at_call 103;refine(cQ _ _ _).mono ?_;rintro e w1 ⟨rfl,hw1⟩;obtain rfl:=hw1.symm;(first | rw [t] | skip);first | rw [asksE_yes] | rw [asksE_no]))
  go_end0
  exact⟨rfl,(Below.refl _ w).alloc (Nat.le_refl _) _⟩
 | false=>
  go_enter Tryz.func48,Tryz.ntmps48
  go_wp2_with (first | (go_at_call 104;refine(cF _ _ _ _).mono ?_;rintro e w1 ⟨rfl,hw1⟩;obtain rfl:=hw1.symm;rw [t]) | (go_at_call 103;refine(cQ _ _ _).mono ?_;rintro e w1 ⟨rfl,hw1⟩;obtain rfl:=hw1.symm;(first | rw [t] | skip);first | rw [asksE_yes] | rw [asksE_no]))
  exact⟨rfl,rfl,(Below.refl _ w).alloc (Nat.le_refl _) _⟩
end
set_option maxRecDepth 20000 in
theorem needTree_any {w:World} (c:Cf) (now:Int) {ao:Option Addr} {la:List Ac} {ca:Nat} (jo:Option Addr) (N cj:Nat) (hd:Int) (hA:AcsAt w ao la) (hs:∀a∈la,a.nm.size≤maxLen) (hn:la.length*48≤281474976710656) (hc:la.length≤ca):
  Calls Tryz.prog 49 #[.agg (stL c now ao la.length ca jo N cj hd)] w fun e w'=>e=asksE (loadE la==0) 172∧Below w.heap.size w w':=by
 have cL:∀x,Below w.heap.size w x→Calls Tryz.prog 90 #[.slice ao la.length ca] x fun e w'=>∃v,e=.returned (.tuple #[.pointer v,.int .i64 (loadE la)])∧Below x.heap.size x w':=fun x hx=>(pload_any (hA.below hx) hs hn hc).mono (fun e w' h=>by
  by_cases h0:loadE la=0
  ·obtain ⟨t,e1,_⟩:=h.1 h0
   exact⟨_,by rw [h0];exact e1,h.2.2⟩
  ·exact ⟨_,h.2.1 h0,h.2.2⟩)
 have cQ:=need_any
 unfold stL
 generalize loadE la=q at *
 generalize la.length=L at *
 clear hA hs hn hc
 have hbW:∀o:Obj,Below w.heap.size w (w.alloc o):=fun o=>(Below.refl _ w).alloc (Nat.le_refl _) _
 cases t:(q==0)with
 | true=>
  go_enter Tryz.func49,Tryz.ntmps49
  go_wp2_with (first | (go_at_call 90;refine(cL _ (hbW _)).mono ?_;rintro e w1 ⟨v,rfl,hb⟩) | (go_at_call 103;refine(cQ _ _ _).mono ?_;rintro e w1 ⟨rfl,hw1⟩;obtain rfl:=hw1.symm;(first | rw [t] | skip);first | rw [asksE_yes] | rw [asksE_no]))
  go_end0
  exact⟨rfl,(hbW _).trans (hb.mono (by simp))⟩
 | false=>
  go_enter Tryz.func49,Tryz.ntmps49
  go_wp2_with (first | (go_at_call 90;refine(cL _ (hbW _)).mono ?_;rintro e w1 ⟨v,rfl,hb⟩) | (go_at_call 103;refine(cQ _ _ _).mono ?_;rintro e w1 ⟨rfl,hw1⟩;obtain rfl:=hw1.symm;(first | rw [t] | skip);first | rw [asksE_yes] | rw [asksE_no]))
  exact⟨rfl,rfl,(hbW _).trans (hb.mono (by simp))⟩
set_option maxHeartbeats 1000000 in
set_option maxRecDepth 20000 in
theorem needQueue_any {w:World} (c:Cf) (now:Int) (ao:Option Addr) (na ca:Nat) {jo:Option Addr} {ps:List Pj} (cj:Nat) (hd:Int) (hJ:PjsAt w jo ps) (hl:ps.length≤140737488355328):
  Calls Tryz.prog 51 #[.agg (stL c now ao na ca jo ps.length cj hd)] w fun e w'=>e=asksE (decide ((pendN (ps.map Pj.v):Int)≤c.queue)) 175∧Below w.heap.size w w':=by
 have cQ:=need_any
 obtain⟨g,o,hg,hrow⟩:=row_at hJ
 have HROW:Hid (∀x,Below w.heap.size w x→∀(k:Nat) (q:Pj),ps[k]?=some q→JbAt x g (o+k*8) q.jb):=hrow
 have HGET:Hid (∀k,k<ps.length→∃q,ps[k]?=some q∧(ps.map Pj.v)[k]?=some q.v):=fun k hk=>⟨_,List.getElem?_eq_getElem hk,vmap_at (List.getElem?_eq_getElem hk)⟩
 have HALL:Hid ((ps.map Pj.v).take ps.length=ps.map Pj.v):=List.take_of_length_le (by simp)
 have HPL:Hid (∀k,pendN ((ps.map Pj.v).take k)≤k):=fun k=>Nat.le_trans (pend_le _) (by rw [List.length_take];omega)
 obtain⟨vs,hvs⟩:∃vs,ps.map Pj.v=vs:=⟨_,rfl⟩
 rw [hvs]at HGET HALL HPL ⊢
 obtain⟨N,hN⟩:∃N,ps.length=N:=⟨_,rfl⟩
 rw [hN]at hl hg HGET HALL ⊢
 have HG:Hid (0<N→jo=some ⟨g,o,none⟩):=hg
 clear hN hg hrow hJ hvs
 unfold stL
 obtain⟨W,hW⟩:∃W,w.alloc (.cells #[.int .i64 c.nodes,.int .i64 c.queue,.int .i64 c.limit,.int .i64 c.age,.int .i64 c.fair,.int .i64 c.size,.int .i64 c.period,.int .i64 c.half,.int .i64 now,.slice ao na ca,.slice jo N cj,.int .i64 hd] 27)=W:=⟨_,rfl⟩
 have HBW:Hid (Below w.heap.size w W):=by show Below w.heap.size w W;rw [← hW];exact(Below.refl _ w).alloc (Nat.le_refl _) _
 have k0:W.cell? ⟨w.heap.size,0,none⟩=some (.int .i64 c.nodes):=by rw [← hW];exact cells_at (heap_alloc_new w _) rfl
 have k1:W.cell? ⟨w.heap.size,1,none⟩=some (.int .i64 c.queue):=by rw [← hW];exact cells_at (heap_alloc_new w _) rfl
 have k2:W.cell? ⟨w.heap.size,2,none⟩=some (.int .i64 c.limit):=by rw [← hW];exact cells_at (heap_alloc_new w _) rfl
 have k3:W.cell? ⟨w.heap.size,3,none⟩=some (.int .i64 c.age):=by rw [← hW];exact cells_at (heap_alloc_new w _) rfl
 have k4:W.cell? ⟨w.heap.size,4,none⟩=some (.int .i64 c.fair):=by rw [← hW];exact cells_at (heap_alloc_new w _) rfl
 have k5:W.cell? ⟨w.heap.size,5,none⟩=some (.int .i64 c.size):=by rw [← hW];exact cells_at (heap_alloc_new w _) rfl
 have k6:W.cell? ⟨w.heap.size,6,none⟩=some (.int .i64 c.period):=by rw [← hW];exact cells_at (heap_alloc_new w _) rfl
 have k7:W.cell? ⟨w.heap.size,7,none⟩=some (.int .i64 c.half):=by rw [← hW];exact cells_at (heap_alloc_new w _) rfl
 have k8:W.cell? ⟨w.heap.size,8,none⟩=some (.int .i64 now):=by rw [← hW];exact cells_at (heap_alloc_new w _) rfl
 have k9:W.cell? ⟨w.heap.size,9,none⟩=some (.slice ao na ca):=by rw [← hW];exact cells_at (heap_alloc_new w _) rfl
 have k10:W.cell? ⟨w.heap.size,10,none⟩=some (.slice jo N cj):=by rw [← hW];exact cells_at (heap_alloc_new w _) rfl
 have k11:W.cell? ⟨w.heap.size,11,none⟩=some (.int .i64 hd):=by rw [← hW];exact cells_at (heap_alloc_new w _) rfl
 go_enter Tryz.func51,Tryz.ntmps51
 go_wp2
 try rw [hW]
 clear hW
 go_loopg [2,8] N (fun gk v1 v2 wr=>∃k:Nat,k+gk=N∧v1=.int .i64 (pendN (vs.take k):Int)∧v2=.int .i64 (k:Int)∧Below W.heap.size W wr)
 case atStart=>exact⟨0,by omega,rfl,rfl,Below.refl _ _⟩
 case round=>
  obtain⟨k,hk,rfl,rfl,hbr⟩:=hrel
  have HBR:Hid (Below W.heap.size W wr):=hbr
  have HB2:Hid (Below w.heap.size w wr):=HBW.out.trans (hbr.mono HBW.out.size)
  have HK:Hid (k+gk=N):=hk
  have hpl:=HPL.out k
  by_cases hlt:k<N
  ·have hlt':(k:Int)<(N:Int):=by omega
   obtain⟨p,hp,hv⟩:=HGET.out k hlt
   obtain rfl:=HG.out (by omega)
   obtain⟨y0,y1,y2,y3,y4,y5,y6,y7⟩:=HROW.out wr HB2.out k p hp
   have HPS:Hid (pendN (vs.take (k+1))=pendN (vs.take k)+(if p.v.st=1 then 1 else 0)):=pend_succ hv
   clear hp hv
   obtain⟨⟨ac,nd,lm,sb,st,sr,en,xs⟩,sa,sc⟩:=p
   dsimp only [Pj.jb]at y0 y1 y2 y3 y4 y5 y6 y7 HPS
   have q10:=cellB hbr k10
   have HNX:Hid (∀o,Below W.heap.size W (wr.alloc o)):=fun o=>HBR.out.alloc HBR.out.size _
   clear hbr
   by_cases hst:st=1
   ·subst hst
    replace HPS:Hid (((pendN (vs.take (k+1)):Nat):Int)=(pendN (vs.take k):Int)+1):=by show ((pendN (vs.take (k+1)):Nat):Int)=_;rw [HPS.out];simp
    go_wp2
    go_roundg (N - (k+1))
    case measure=>have:=HK.out;omega
    case rel=>exact⟨k+1,by omega,by rw [HPS.out],by simp,HNX.out _⟩
   ·replace HPS:Hid (pendN (vs.take (k+1))=pendN (vs.take k)):=by show pendN (vs.take (k+1))=_;rw [HPS.out,if_neg hst];rfl
    go_wp2
    go_roundg (N - (k+1))
    case measure=>have:=HK.out;omega
    case rel=>exact⟨k+1,by omega,by rw [HPS.out],by simp,HNX.out _⟩
  ·obtain rfl:k=N:=by omega
   have q1:=cellB hbr k1
   rw [HALL.out]
   clear hbr hpl
   cases t:decide ((pendN vs:Int)≤c.queue)with
   | true=>
    go_wp2_with (go_at_call 103;refine(cQ _ _ _).mono ?_;rintro e w1 ⟨rfl,hw1⟩;obtain rfl:=hw1.symm;(first | rw [t] | skip);first | rw [asksE_yes] | rw [asksE_no])
    go_end0
    exact⟨by rw [t];rfl,HB2.out⟩
   | false=>
    go_wp2_with (go_at_call 103;refine(cQ _ _ _).mono ?_;rintro e w1 ⟨rfl,hw1⟩;obtain rfl:=hw1.symm;(first | rw [t] | skip);first | rw [asksE_yes] | rw [asksE_no])
    exact⟨rfl,by rw [t];rfl,HB2.out⟩
set_option maxHeartbeats 1000000 in
set_option maxRecDepth 20000 in
theorem needHolder_any {w:World} (c:Cf) (now:Int) (ao:Option Addr) (la:List Ac) (na ca:Nat) {jo:Option Addr} {ps:List Pj} (cj:Nat) (hd:Int) (hJ:PjsAt w jo ps) (hl:ps.length≤140737488355328):
  Calls Tryz.prog 54 #[.agg (stL c now ao na ca jo ps.length cj hd)] w fun e w'=>e=asksE (holdB ⟨c,now,la,ps.map Pj.v,hd⟩) 177∧Below w.heap.size w w':=by
 have cQ:=need_any
 have cF:=from_any
 obtain⟨g,o,hg,hrow⟩:=row_at hJ
 have HROW:Hid (∀x,Below w.heap.size w x→∀(k:Nat) (q:Pj),ps[k]?=some q→JbAt x g (o+k*8) q.jb):=hrow
 have HGET:Hid (∀k,k<ps.length→∃q,ps[k]?=some q∧(ps.map Pj.v)[k]?=some q.v):=fun k hk=>⟨_,List.getElem?_eq_getElem hk,vmap_at (List.getElem?_eq_getElem hk)⟩
 have HNO:Hid (∀k,ps.length≤k→(ps.map Pj.v)[k]?=none):=fun k hk=>List.getElem?_eq_none (by simpa using hk)
 obtain⟨AV,hAV⟩:∃AV,asksE (holdB ⟨c,now,la,ps.map Pj.v,hd⟩) 177=AV:=⟨_,rfl⟩
 have HAV:Hid (asksE (holdB ⟨c,now,la,ps.map Pj.v,hd⟩) 177=AV):=hAV
 rw [hAV]
 clear hAV
 obtain⟨vs,hvs⟩:∃vs,ps.map Pj.v=vs:=⟨_,rfl⟩
 rw [hvs]at HGET HAV HNO
 obtain⟨N,hN⟩:∃N,ps.length=N:=⟨_,rfl⟩
 rw [hN]at hl hg HGET HNO ⊢
 have HG:Hid (0<N→jo=some ⟨g,o,none⟩):=hg
 clear hN hg hrow hJ hvs
 unfold stL
 obtain⟨W,hW⟩:∃W,w.alloc (.cells #[.int .i64 c.nodes,.int .i64 c.queue,.int .i64 c.limit,.int .i64 c.age,.int .i64 c.fair,.int .i64 c.size,.int .i64 c.period,.int .i64 c.half,.int .i64 now,.slice ao na ca,.slice jo N cj,.int .i64 hd] 27)=W:=⟨_,rfl⟩
 have HBW:Hid (Below w.heap.size w W):=by show Below w.heap.size w W;rw [← hW];exact(Below.refl _ w).alloc (Nat.le_refl _) _
 have k0:W.cell? ⟨w.heap.size,0,none⟩=some (.int .i64 c.nodes):=by rw [← hW];exact cells_at (heap_alloc_new w _) rfl
 have k1:W.cell? ⟨w.heap.size,1,none⟩=some (.int .i64 c.queue):=by rw [← hW];exact cells_at (heap_alloc_new w _) rfl
 have k2:W.cell? ⟨w.heap.size,2,none⟩=some (.int .i64 c.limit):=by rw [← hW];exact cells_at (heap_alloc_new w _) rfl
 have k3:W.cell? ⟨w.heap.size,3,none⟩=some (.int .i64 c.age):=by rw [← hW];exact cells_at (heap_alloc_new w _) rfl
 have k4:W.cell? ⟨w.heap.size,4,none⟩=some (.int .i64 c.fair):=by rw [← hW];exact cells_at (heap_alloc_new w _) rfl
 have k5:W.cell? ⟨w.heap.size,5,none⟩=some (.int .i64 c.size):=by rw [← hW];exact cells_at (heap_alloc_new w _) rfl
 have k6:W.cell? ⟨w.heap.size,6,none⟩=some (.int .i64 c.period):=by rw [← hW];exact cells_at (heap_alloc_new w _) rfl
 have k7:W.cell? ⟨w.heap.size,7,none⟩=some (.int .i64 c.half):=by rw [← hW];exact cells_at (heap_alloc_new w _) rfl
 have k8:W.cell? ⟨w.heap.size,8,none⟩=some (.int .i64 now):=by rw [← hW];exact cells_at (heap_alloc_new w _) rfl
 have k9:W.cell? ⟨w.heap.size,9,none⟩=some (.slice ao na ca):=by rw [← hW];exact cells_at (heap_alloc_new w _) rfl
 have k10:W.cell? ⟨w.heap.size,10,none⟩=some (.slice jo N cj):=by rw [← hW];exact cells_at (heap_alloc_new w _) rfl
 have k11:W.cell? ⟨w.heap.size,11,none⟩=some (.int .i64 hd):=by rw [← hW];exact cells_at (heap_alloc_new w _) rfl
 by_cases h1:hd= -1
 ·subst h1
  have HAA:Hid (AV=.returned (.tuple #[])):=by show AV=_;rw [← HAV.out];rfl
  go_enter Tryz.func54,Tryz.ntmps54
  go_wp2
  first | (go_end0;exact⟨HAA.out.symm,HBW.out⟩) | (refine bodyPost_ret (results_none rfl _ _ _) rfl ?_;exact⟨HAA.out.symm,by first | exact HBW.out | (rw [hW];exact HBW.out)⟩)
 ·have h1':(hd== -1)=false:=beq_eq_false_iff_ne.2 h1
  have HWN:Hid (wrap64 ((N:Int) - 1)=(N:Int) - 1):=by show wrap64 ((N:Int) - 1)=(N:Int) - 1;unfold wrap64;omega
  cases t:fromB 0 ((N:Int) - 1) hd with
  | false=>
   have HAA:Hid (AV=.panicked (thrown 177)):=by
    show AV=_
    rw [← HAV.out]
    have:holdB ⟨c,now,la,vs,hd⟩=false:=by
     unfold holdB
     rw [decide_eq_false h1,Bool.false_or]
     by_cases h0:0≤hd
     ·have:(N:Int) - 1<hd:=by simpa [fromB,h0]using t
      simp only [HNO.out hd.toNat (by omega),Bool.and_false]
     ·rw [decide_eq_false h0];rfl
    rw [this];rfl
   go_enter Tryz.func54,Tryz.ntmps54
   go_wp2_with (first | (go_at_call 104;refine(cF _ _ _ _).mono ?_;rintro e w1 ⟨rfl,hw1⟩;obtain rfl:=hw1.symm;(first | rw [t] | (rw [HWN.out,t]))) | (go_at_call 103;refine(cQ _ _ _).mono ?_;rintro e w1 ⟨rfl,hw1⟩;obtain rfl:=hw1.symm;(first | rw [t] | skip);first | rw [asksE_yes] | rw [asksE_no]))
   exact⟨rfl,HAA.out.symm,by first | exact HBW.out | (rw [hW];exact HBW.out)⟩
  | true=>
   have hb:0≤hd∧hd≤(N:Int) - 1:=by simpa [fromB]using t
   obtain⟨k,hk⟩:∃k:Nat,hd=(k:Int):=⟨hd.toNat,by omega⟩
   subst hk
   have hkN:k<N:=by omega
   have hkN':(k:Int)<(N:Int):=by omega
   obtain⟨p,hp,hv⟩:=HGET.out k hkN
   obtain rfl:=HG.out (by omega)
   obtain⟨y0,y1,y2,y3,y4,y5,y6,y7⟩:=HROW.out W HBW.out k p hp
   have HA:Hid (AV=asksE (decide (p.v.st=1)&&decide (p.v.sb<now)) 177):=by
    show AV=_
    rw [← HAV.out]
    unfold holdB
    rw [decide_eq_false h1,Bool.false_or]
    simp only [Int.toNat_natCast,hv]
    rw [decide_eq_true (by omega:(0:Int)≤(k:Int)),Bool.true_and]
   clear hp hv
   obtain⟨⟨ac,nd,lm,sb,st,sr,en,xs⟩,sa,sc⟩:=p
   dsimp only [Pj.jb]at y0 y1 y2 y3 y4 y5 y6 y7 HA
   obtain⟨X,hX⟩:∃X,W.alloc (.cells #[.int .i64 ac,.int .i64 nd,.int .i64 lm,.int .i64 sb,.int .i64 st,.int .i64 sr,.int .i64 en,.slice sa xs.length sc] 55)=X:=⟨_,rfl⟩
   have hbX:Below W.heap.size W X:=by rw [← hX];exact(Below.refl _ W).alloc (Nat.le_refl _) _
   have HBX:Hid (Below w.heap.size w X):=HBW.out.trans (hbX.mono HBW.out.size)
   have n0:X.cell? ⟨W.heap.size,0,none⟩=some (.int .i64 ac):=by rw [← hX];exact cells_at (heap_alloc_new W _) rfl
   have n1:X.cell? ⟨W.heap.size,1,none⟩=some (.int .i64 nd):=by rw [← hX];exact cells_at (heap_alloc_new W _) rfl
   have n2:X.cell? ⟨W.heap.size,2,none⟩=some (.int .i64 lm):=by rw [← hX];exact cells_at (heap_alloc_new W _) rfl
   have n3:X.cell? ⟨W.heap.size,3,none⟩=some (.int .i64 sb):=by rw [← hX];exact cells_at (heap_alloc_new W _) rfl
   have n4:X.cell? ⟨W.heap.size,4,none⟩=some (.int .i64 st):=by rw [← hX];exact cells_at (heap_alloc_new W _) rfl
   have n5:X.cell? ⟨W.heap.size,5,none⟩=some (.int .i64 sr):=by rw [← hX];exact cells_at (heap_alloc_new W _) rfl
   have n6:X.cell? ⟨W.heap.size,6,none⟩=some (.int .i64 en):=by rw [← hX];exact cells_at (heap_alloc_new W _) rfl
   have n7:X.cell? ⟨W.heap.size,7,none⟩=some (.slice sa xs.length sc):=by rw [← hX];exact cells_at (heap_alloc_new W _) rfl
   have m8:=cellB hbX k8
   clear hbX
   go_enter Tryz.func54,Tryz.ntmps54
   go_upto_region 3 with(first | (go_at_call 104;refine(cF _ _ _ _).mono ?_;rintro e w1 ⟨rfl,hw1⟩;obtain rfl:=hw1.symm;(first | rw [t] | (rw [HWN.out,t]))) | (go_at_call 103;refine(cQ _ _ _).mono ?_;rintro e w1 ⟨rfl,hw1⟩;obtain rfl:=hw1.symm;(first | rw [t] | skip);first | rw [asksE_yes] | rw [asksE_no]))
   try rw [hW]
   clear hW t
   go_upto_region 4 with fail
   try rw [hX]
   clear hX
   by_cases hst:st=1
   ·subst hst
    cases t2:decide (sb<now)with
    | true=>
     have HAA:Hid (AV=.returned (.tuple #[])):=by show AV=_;rw [HA.out,t2];rfl
     go_wp2_with (go_at_call 103;refine(cQ _ _ _).mono ?_;rintro e w1 ⟨rfl,hw1⟩;obtain rfl:=hw1.symm;(first | rw [t2] | skip);first | rw [asksE_yes] | rw [asksE_no])
     go_end0
     exact⟨HAA.out.symm,HBX.out⟩
    | false=>
     have HAA:Hid (AV=.panicked (thrown 177)):=by show AV=_;rw [HA.out,t2];rfl
     go_wp2_with (go_at_call 103;refine(cQ _ _ _).mono ?_;rintro e w1 ⟨rfl,hw1⟩;obtain rfl:=hw1.symm;(first | rw [t2] | skip);first | rw [asksE_yes] | rw [asksE_no])
     exact⟨rfl,HAA.out.symm,HBX.out⟩
   ·have HAA:Hid (AV=.panicked (thrown 177)):=by show AV=_;rw [HA.out,decide_eq_false hst];rfl
    have t3:(false==true)=false:=rfl
    go_wp2_with (go_at_call 103;refine(cQ _ _ _).mono ?_;rintro e w1 ⟨rfl,hw1⟩;obtain rfl:=hw1.symm;(first | rw [t3] | skip);first | rw [asksE_yes] | rw [asksE_no])
    exact⟨rfl,HAA.out.symm,HBX.out⟩
theorem use_iff {raw us:Int} (h0:0≤raw) (hu:Word us):(decide (0<hiW (raw*4294967296))||decide (us≤loW (raw*4294967296)))=decide (us≤raw*4294967296):=by
 obtain⟨u0,u1⟩:=hu
 unfold hiW loW
 rw [Bool.eq_iff_iff]
 simp only [Bool.or_eq_true,decide_eq_true_eq]
 omega
set_option maxHeartbeats 2000000 in
set_option maxRecDepth 20000 in
theorem needUsage_any {w:World} (c:Cf) (now:Int) {ao:Option Addr} {la:List Ac} (ca:Nat) {jo:Option Addr} {ps:List Pj} (cj:Nat) (hd:Int) (hA:AcsAt w ao la) (hu:∀(n:Nat) (a:Ac),la[n]?=some a→Word a.us) (hn:la.length*48≤281474976710656) (hJ:PjsAt w jo ps) (hl:ps.length≤140737488355328) (hr:∀n:Int,0≤rawJ n now (ps.map Pj.v)∧rawJ n now (ps.map Pj.v)≤1099511627776):
  Calls Tryz.prog 53 #[.agg (stL c now ao la.length ca jo ps.length cj hd)] w fun e w'=>e=asksE (usagesB now (ps.map Pj.v) la la.length) 173∧Below w.heap.size w w':=by
 have cQ:=need_any
 have HM:Hid (∀r x,0≤r→r≤1099511627776→Calls Tryz.prog 112 #[.int .u64 r,.int .u64 4294967296] x fun e w'=>e=.returned (.tuple #[.int .u64 (hiW (r*4294967296)),.int .u64 (loW (r*4294967296))])∧x=w'):=fun r x h1 h2=>(mul64 r 4294967296 ⟨h1,by omega⟩ ⟨by omega,by omega⟩ x).mono (fun e w' h=>⟨h.1,h.2.symm⟩)
 have HRW:Hid (∀x,Below w.heap.size w x→∀(n:Nat),Calls Tryz.prog 111 #[.slice jo ps.length cj,.slice (some ⟨x.heap.size,0,none⟩) 1 1,.int .i64 now] (x.alloc (.cells #[.int .i64 (n:Int)] 3)) fun e w'=>e=.returned (.int .i64 (rawJ n now (ps.map Pj.v)))∧Below x.heap.size x w'):=by
  intro x hx n
  have hb:Below x.heap.size x (x.alloc (.cells #[.int .i64 (n:Int)] 3)):=(Below.refl _ x).alloc (Nat.le_refl _) _
  have:=raw_any (c:=cj) (c':=1) (hJ.jobs.below (hx.trans (hb.mono hx.size))) (by rw [List.length_map];exact hl) (ints_one x (n:Int)) (by simp) now
  rw [List.length_map]at this
  unfold rawV at this
  have h2:=hr (n:Int)
  rw [raw_jb,show wrap64 (rawJ (n:Int) now (ps.map Pj.v))=rawJ (n:Int) now (ps.map Pj.v) by unfold wrap64;omega]at this
  exact this.mono (fun e w' h=>⟨h.1,hb.trans (h.2.mono hb.size)⟩)
 have HR:Hid (∀n:Nat,0≤rawJ (n:Int) now (ps.map Pj.v)∧rawJ (n:Int) now (ps.map Pj.v)≤1099511627776):=fun n=>hr n
 obtain⟨g,o,hg,hacs⟩:=hA
 have HAC:Hid (∀x,Below w.heap.size w x→∀(k:Nat) (a:Ac),la[k]?=some a→AcAt x g (o+k*5) a):=fun x hx k a ha=>(hacs k a ha).below hx
 have HGET:Hid (∀k,k<la.length→∃a,la[k]?=some a∧Word a.us):=fun k hk=>⟨_,List.getElem?_eq_getElem hk,hu k _ (List.getElem?_eq_getElem hk)⟩
 have HUF:Hid (∀k a,k<la.length→la[k]?=some a→usageB now (ps.map Pj.v) k a=false→usagesB now (ps.map Pj.v) la la.length=false):=fun k a hk ha hf=>by
  cases h:usagesB now (ps.map Pj.v) la la.length with
  | false=>rfl
  | true=>have:=usages_iff.1 h k hk a ha;rw [hf]at this;cases this
 have HUS:Hid (∀k a,la[k]?=some a→usagesB now (ps.map Pj.v) la (k+1)=(usagesB now (ps.map Pj.v) la k&&usageB now (ps.map Pj.v) k a)):=fun k a ha=>usages_succ ha
 obtain⟨L,hL⟩:∃L,la.length=L:=⟨_,rfl⟩
 rw [hL]at hg HGET HUF hn ⊢
 obtain⟨N,hN⟩:∃N,ps.length=N:=⟨_,rfl⟩
 rw [hN]at HRW ⊢
 obtain⟨vs,hvs⟩:∃vs,ps.map Pj.v=vs:=⟨_,rfl⟩
 rw [hvs]at HRW HR HUF HUS ⊢
 have HG:Hid (0<L→ao=some ⟨g,o,none⟩):=hg
 clear hN hL hvs hg hacs hJ hu hr hl
 obtain⟨AV,hAV⟩:∃AV,asksE (usagesB now vs la L) 173=AV:=⟨_,rfl⟩
 have HAV:Hid (asksE (usagesB now vs la L) 173=AV):=hAV
 rw [hAV]
 clear hAV
 unfold stL
 obtain⟨W,hW⟩:∃W,w.alloc (.cells #[.int .i64 c.nodes,.int .i64 c.queue,.int .i64 c.limit,.int .i64 c.age,.int .i64 c.fair,.int .i64 c.size,.int .i64 c.period,.int .i64 c.half,.int .i64 now,.slice ao L ca,.slice jo N cj,.int .i64 hd] 27)=W:=⟨_,rfl⟩
 have HBW:Hid (Below w.heap.size w W):=by show Below w.heap.size w W;rw [← hW];exact(Below.refl _ w).alloc (Nat.le_refl _) _
 have k0:W.cell? ⟨w.heap.size,0,none⟩=some (.int .i64 c.nodes):=by rw [← hW];exact cells_at (heap_alloc_new w _) rfl
 have k1:W.cell? ⟨w.heap.size,1,none⟩=some (.int .i64 c.queue):=by rw [← hW];exact cells_at (heap_alloc_new w _) rfl
 have k2:W.cell? ⟨w.heap.size,2,none⟩=some (.int .i64 c.limit):=by rw [← hW];exact cells_at (heap_alloc_new w _) rfl
 have k3:W.cell? ⟨w.heap.size,3,none⟩=some (.int .i64 c.age):=by rw [← hW];exact cells_at (heap_alloc_new w _) rfl
 have k4:W.cell? ⟨w.heap.size,4,none⟩=some (.int .i64 c.fair):=by rw [← hW];exact cells_at (heap_alloc_new w _) rfl
 have k5:W.cell? ⟨w.heap.size,5,none⟩=some (.int .i64 c.size):=by rw [← hW];exact cells_at (heap_alloc_new w _) rfl
 have k6:W.cell? ⟨w.heap.size,6,none⟩=some (.int .i64 c.period):=by rw [← hW];exact cells_at (heap_alloc_new w _) rfl
 have k7:W.cell? ⟨w.heap.size,7,none⟩=some (.int .i64 c.half):=by rw [← hW];exact cells_at (heap_alloc_new w _) rfl
 have k8:W.cell? ⟨w.heap.size,8,none⟩=some (.int .i64 now):=by rw [← hW];exact cells_at (heap_alloc_new w _) rfl
 have k9:W.cell? ⟨w.heap.size,9,none⟩=some (.slice ao L ca):=by rw [← hW];exact cells_at (heap_alloc_new w _) rfl
 have k10:W.cell? ⟨w.heap.size,10,none⟩=some (.slice jo N cj):=by rw [← hW];exact cells_at (heap_alloc_new w _) rfl
 have k11:W.cell? ⟨w.heap.size,11,none⟩=some (.int .i64 hd):=by rw [← hW];exact cells_at (heap_alloc_new w _) rfl
 go_enter Tryz.func53,Tryz.ntmps53
 go_wp2
 try rw [hW]
 clear hW
 go_loopg [10] L (fun gk v wr=>∃k:Nat,k+gk=L∧v=.int .i64 (k:Int)∧usagesB now vs la k=true∧Below W.heap.size W wr)
 case atStart=>exact⟨0,by omega,rfl,rfl,Below.refl _ _⟩
 case round=>
  obtain⟨k,hk,rfl,hus,hbr⟩:=hrel
  have HBR:Hid (Below W.heap.size W wr):=hbr
  have HB2:Hid (Below w.heap.size w wr):=HBW.out.trans (hbr.mono HBW.out.size)
  have HK:Hid (k+gk=L∧usagesB now vs la k=true):=⟨hk,hus⟩
  clear hus
  by_cases hlt:k<L
  ·have hlt':(k:Int)<(L:Int):=by omega
   obtain⟨a,ha,hw0⟩:=HGET.out k hlt
   obtain rfl:=HG.out (by omega)
   obtain⟨y0,y1,y2,y3,y4⟩:=HAC.out wr HB2.out k a ha
   have HUF2:Hid (usageB now vs k a=false→AV=.panicked (thrown 173)):=fun hf=>by rw [← HAV.out,HUF.out k a hlt ha hf];rfl
   have HUS2:Hid (usageB now vs k a=true→usagesB now vs la (k+1)=true):=fun ht=>by rw [HUS.out k a ha,HK.out.2,ht];rfl
   have hr0:=HR.out k
   have HUI:Hid ((decide (0<hiW (rawJ (k:Int) now vs*4294967296))||decide (a.us≤loW (rawJ (k:Int) now vs*4294967296)))=usageB now vs k a):=use_iff hr0.1 hw0
   clear ha
   obtain⟨nm,pa,sh,cl,us⟩:=a
   dsimp only at y0 y1 y2 y3 y4 HUF2 HUS2 HUI
   obtain⟨UB,hUB⟩:∃UB,usageB now vs k ⟨nm,pa,sh,cl,us⟩=UB:=⟨_,rfl⟩
   rw [hUB]at HUF2 HUS2 HUI
   clear hUB
   obtain⟨R,hR⟩:∃R,rawJ (k:Int) now vs=R:=⟨_,rfl⟩
   have HR1:Hid (rawJ (k:Int) now vs=R):=hR
   rw [hR]at hr0 HUI
   clear hR
   obtain⟨r1,r2⟩:=hr0
   obtain⟨X,hX⟩:∃X,wr.alloc (.cells #[.string nm,.int .i64 pa,.int .i64 sh,.bool cl,.int .u64 us] 52)=X:=⟨_,rfl⟩
   have hbX:Below wr.heap.size wr X:=by rw [← hX];exact(Below.refl _ wr).alloc (Nat.le_refl _) _
   have HBX:Hid (Below w.heap.size w X∧Below W.heap.size W X):=⟨HB2.out.trans (hbX.mono HB2.out.size),HBR.out.trans (hbX.mono HBR.out.size)⟩
   have n4:X.cell? ⟨wr.heap.size,4,none⟩=some (.int .u64 us):=by rw [← hX];exact cells_at (heap_alloc_new wr _) rfl
   have m8:=cellB HBX.out.2 k8
   have m10:=cellB HBX.out.2 k10
   have q9:=cellB hbr k9
   have cR:=HRW.out X HBX.out.1 k
   rw [HR1.out]at cR
   have hbA:Below X.heap.size X (X.alloc (.cells #[.int .i64 (k:Int)] 3)):=(Below.refl _ X).alloc (Nat.le_refl _) _
   have s8:=cellB hbA m8
   have s10:=cellB hbA m10
   clear hbX hbA
   go_upto_region 4 with fail
   try rw [hX]
   clear hX y0 y1 y2 y3 y4 hbr
   go_upto_region 5 with(go_at_call 111;refine cR.mono ?_;rintro e Y1 ⟨rfl,hb1⟩)
   have HBY:Hid (Below w.heap.size w Y1∧Below W.heap.size W Y1):=⟨HBX.out.1.trans (hb1.mono HBX.out.1.size),HBX.out.2.trans (hb1.mono HBX.out.2.size)⟩
   replace n4:=cellB hb1 n4
   clear hb1 cR m8 m10 s8 s10
   have cM:=HM.out R Y1 r1 r2
   go_upto_region 6 with(go_at_call 112;refine cM.mono ?_;rintro e Y2 ⟨rfl,hy2⟩;obtain rfl:=hy2)
   clear cM
   obtain⟨H,hH⟩:∃H,hiW (R*4294967296)=H:=⟨_,rfl⟩
   obtain⟨Lo,hLo⟩:∃Lo,loW (R*4294967296)=Lo:=⟨_,rfl⟩
   rw [hH,hLo]at HUI ⊢
   clear hH hLo
   by_cases hh:0<H
   ·have hUB:UB=true:=by rw [← HUI.out,decide_eq_true hh];rfl
    have HN:Hid (usagesB now vs la (k+1)=true):=HUS2.out hUB
    clear hUB
    have t:(false==true)=false:=rfl
    go_wp2_with (go_at_call 103;refine(cQ _ _ _).mono ?_;rintro e w1 ⟨rfl,hw1⟩;obtain rfl:=hw1.symm;(first | rw [t] | skip);first | rw [asksE_yes] | rw [asksE_no])
    go_roundg (L - (k+1))
    case measure=>have:=HK.out.1;omega
    case rel=>exact⟨k+1,by omega,by simp,HN.out,HBY.out.2⟩
   ·cases t:decide (us≤Lo)with
    | true=>
     have hUB:UB=true:=by rw [← HUI.out,t,Bool.or_true]
     have HN:Hid (usagesB now vs la (k+1)=true):=HUS2.out hUB
     clear hUB
     go_wp2_with (go_at_call 103;refine(cQ _ _ _).mono ?_;rintro e w1 ⟨rfl,hw1⟩;obtain rfl:=hw1.symm;(first | rw [t] | skip);first | rw [asksE_yes] | rw [asksE_no])
     go_roundg (L - (k+1))
     case measure=>have:=HK.out.1;omega
     case rel=>exact⟨k+1,by omega,by simp,HN.out,HBY.out.2⟩
    | false=>
     have hUB:UB=false:=by rw [← HUI.out,t,decide_eq_false hh];rfl
     have HAA:Hid (AV=.panicked (thrown 173)):=HUF2.out hUB
     clear hUB
     go_wp2_with (go_at_call 103;refine(cQ _ _ _).mono ?_;rintro e w1 ⟨rfl,hw1⟩;obtain rfl:=hw1.symm;(first | rw [t] | skip);first | rw [asksE_yes] | rw [asksE_no])
     (try simp only [Exit.inBlock,Exit.then])
     exact⟨rfl,HAA.out.symm,HBY.out.1⟩
  ·obtain rfl:k=L:=by omega
   have HAA:Hid (AV=.returned (.tuple #[])):=by show AV=_;rw [← HAV.out,HK.out.2];rfl
   clear hbr
   go_wp2
   go_end0
   exact⟨HAA.out.symm,HB2.out⟩
end Go.Proofs.YtceoibfliggalaaGreatDoor
