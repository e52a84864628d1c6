/-
  TEXTS: SpE, SpF, SpG, SpH.
-/
import Derived.Test.YtceoibfliggalaaGreatDoorKr15
import Derived.Test.YtceoibfliggalaaGreatDoorKr29
namespace Go.Proofs.YtceoibfliggalaaGreatDoor
open Go.RowKit Wd Tr Cg Lg
set_option maxRecDepth 20000 in
theorem acc_neq {w:World} {z y:Ac} (h:z≠y):(binOp .neq 52 (.agg #[.string z.nm,.int .i64 z.pa,.int .i64 z.sh,.bool z.cl,.int .u64 z.us]) (.agg #[.string y.nm,.int .i64 y.pa,.int .i64 y.sh,.bool y.cl,.int .u64 y.us])).run Tryz.prog w=.ok (.bool true) w:=by
 go_simp
 intro h0 h1 h2 h3 h4
 refine h ?_
 obtain⟨a,b,c,d,e⟩:=z
 obtain⟨a',b',c',d',e'⟩:=y
 simp only at h0 h1 h2 h3 h4
 subst h1 h2 h3 h4
 have ha:a=a':=Decidable.byContradiction fun hn=>by
  have:=ba_ne hn
  rw [h0]at this
  simp at this
 rw [ha]
set_option maxRecDepth 20000 in
set_option maxHeartbeats 1000000 in
theorem sameAccounts_b {w:World} {ao bo:Option Addr} {xs ys:List Ac} (c c':Nat) (hA:AcsAt w ao xs) (hB:AcsAt w bo ys) (hl:xs.length≤140737488355328):
  Calls Tryz.prog 30 #[.slice ao xs.length c,.slice bo ys.length c'] w (Tells w (xs=ys)):=by
 obtain⟨g,o,h1,h2⟩:=hA
 obtain⟨g',o',h3,h4⟩:=hB
 by_cases hne:xs.length=ys.length
 ·obtain ⟨n,hn⟩:∃n,xs.length=n:=⟨_,rfl⟩
  have HN:Hid (xs.length=n):=hn
  have HM:Hid (ys.length=n):=hne.symm.trans hn
  rw [← hne,hn]at h3 ⊢
  rw [hn]at h1 hl
  have H1:Hid _:=h1
  have H2:Hid _:=h2
  have H3:Hid _:=h3
  have H4:Hid _:=h4
  clear h1 h2 h3 h4 hn hne
  go_enter Tryz.func30,Tryz.ntmps30
  go_wp2
  go_loopg [5] n (fun gk p wr=>∃(k:Nat),k+gk=n∧p=.int .i64 k∧Below w.heap.size w wr∧xs.take k=ys.take k)
  case atStart=>exact⟨0,by omega,rfl,Below.refl _ _,rfl⟩
  case round=>
   obtain⟨k,hk,rfl,hb,he⟩:=hrel
   have HE:Hid (xs.take k=ys.take k):=he
   clear he
   by_cases hlt:k<n
   ·have hlt':(k:Int)<n:=by omega
    obtain⟨x,hx⟩:∃x,xs[k]?=some x:=⟨_,List.getElem?_eq_getElem (by rw [HN.out];exact hlt)⟩
    obtain⟨y,hy⟩:∃y,ys[k]?=some y:=⟨_,List.getElem?_eq_getElem (by rw [HM.out];exact hlt)⟩
    have e1:=H1.out (by omega)
    have e3:=H3.out (by omega)
    subst e1
    subst e3
    obtain⟨a0,a1,a2,a3,a4⟩:=(H2.out k x hx).below hb
    obtain⟨b0,b1,b2,b3,b4⟩:=(H4.out k y hy).below hb
    have HB:Hid (Below w.heap.size w wr):=hb
    have HX:Hid (xs[k]?=some x):=hx
    have HY:Hid (ys[k]?=some y):=hy
    clear hb hx hy
    by_cases e:x=y
    ·subst e
     go_upto_region 6 with fail
     go_quiet (fail)
     have bV:Below wr.heap.size wr (wr.drewN nq):=bel_drawU wr nq
     clear a0 a1 a2 a3 a4 b0 b1 b2 b3 b4
     go_wp2
     go_roundg (n - (k+1))
     case measure=>omega
     case rel=>exact⟨k+1,by omega,by go_num,HB.out.trans (bV.mono HB.out.size),take_next HE.out HX.out HY.out⟩
    ·have HF:Hid (xs≠ys):=ne_at HX.out HY.out e
     have hq:∀x':World,(binOp .neq 52 (.agg #[.string x.nm,.int .i64 x.pa,.int .i64 x.sh,.bool x.cl,.int .u64 x.us]) (.agg #[.string y.nm,.int .i64 y.pa,.int .i64 y.sh,.bool y.cl,.int .u64 y.us])).run Tryz.prog x'=.ok (.bool true) x':=fun x'=>acc_neq e
     go_upto_region 6 with fail
     go_quiet (fail)
     have HV:Hid (Below w.heap.size w (wr.drewN nq)):=HB.out.trans ((bel_drawU wr nq).mono HB.out.size)
     clear a0 a1 a2 a3 a4 b0 b1 b2 b3 b4
     go_wp2
     go_ret
     exact Tells.no HF.out (HV.out)
   ·have hlt':¬(k:Int)<n:=by omega
    obtain rfl:k=n:=by omega
    have HB:Hid (Below w.heap.size w wr):=hb
    clear hb
    go_wp2
    go_ret
    exact Tells.yes (take_all HE.out HN.out HM.out) HB.out
 ·have HF:Hid (xs≠ys):=fun h=>hne (by rw [h])
  have hne':((xs.length:Int) != (ys.length:Int))=true:=by
   have:(xs.length:Int)≠(ys.length:Int):=by omega
   simpa using this
  generalize xs.length=n at *
  generalize ys.length=m at *
  go_enter Tryz.func30,Tryz.ntmps30
  go_wp2
  go_ret
  exact Tells.no HF.out (Below.refl _ _)
end Go.Proofs.YtceoibfliggalaaGreatDoor
namespace Go.Proofs.YtceoibfliggalaaGreatDoor
open Go.RowKit Wd Tr Cg Lg
set_option maxRecDepth 20000 in
set_option maxHeartbeats 2000000 in
theorem sameJob_b {w:World} {p q:Pj} (hp:IntsAt w p.sa p.v.set) (hq:IntsAt w q.sa q.v.set) (hl:p.v.set.length≤140737488355328):
  Calls Tryz.prog 63 #[pjV p,pjV q] w (Tells w (p.v=q.v)):=by
 obtain⟨⟨ac,nd,lm,sb,st,sr,en,xs⟩,sa,sc⟩:=p
 obtain⟨⟨ac',nd',lm',sb',st',sr',en',xs'⟩,sa',sc'⟩:=q
 unfold pjV
 dsimp only at hp hq hl ⊢
 obtain⟨W,hW⟩:∃W,(w.alloc (.cells #[.int .i64 ac,.int .i64 nd,.int .i64 lm,.int .i64 sb,.int .i64 st,.int .i64 sr,.int .i64 en,.slice sa xs.length sc] 55)).alloc (.cells #[.int .i64 ac',.int .i64 nd',.int .i64 lm',.int .i64 sb',.int .i64 st',.int .i64 sr',.int .i64 en',.slice sa' xs'.length sc'] 55)=W:=⟨_,rfl⟩
 have hsz:(w.alloc (.cells #[.int .i64 ac,.int .i64 nd,.int .i64 lm,.int .i64 sb,.int .i64 st,.int .i64 sr,.int .i64 en,.slice sa xs.length sc] 55)).heap.size=w.heap.size+1:=by simp
 have HBW:Hid (Below w.heap.size w W):=by show Below _ _ _;rw [← hW];exact((Below.refl _ w).alloc (Nat.le_refl _) _).alloc (by rw [hsz];omega) _
 have hb:W.heap[w.heap.size+1]?=some (.cells #[.int .i64 ac',.int .i64 nd',.int .i64 lm',.int .i64 sb',.int .i64 st',.int .i64 sr',.int .i64 en',.slice sa' xs'.length sc'] 55 (0,0)):=by rw [← hW,←hsz];exact heap_alloc_new _ _
 have ha:W.heap[w.heap.size]?=some (.cells #[.int .i64 ac,.int .i64 nd,.int .i64 lm,.int .i64 sb,.int .i64 st,.int .i64 sr,.int .i64 en,.slice sa xs.length sc] 55 (0,0)):=by rw [← hW];exact(((Below.refl _ (w.alloc (.cells #[.int .i64 ac,.int .i64 nd,.int .i64 lm,.int .i64 sb,.int .i64 st,.int .i64 sr,.int .i64 en,.slice sa xs.length sc] 55))).alloc (Nat.le_refl _) _).block w.heap.size (by rw [hsz];omega)).trans (heap_alloc_new w _)
 clear hsz
 have a0:W.cell? ⟨w.heap.size,0,none⟩=some (.int .i64 ac):=cells_at ha rfl
 have b0:W.cell? ⟨w.heap.size+1,0,none⟩=some (.int .i64 ac'):=cells_at hb rfl
 have a1:W.cell? ⟨w.heap.size,1,none⟩=some (.int .i64 nd):=cells_at ha rfl
 have b1:W.cell? ⟨w.heap.size+1,1,none⟩=some (.int .i64 nd'):=cells_at hb rfl
 have a2:W.cell? ⟨w.heap.size,2,none⟩=some (.int .i64 lm):=cells_at ha rfl
 have b2:W.cell? ⟨w.heap.size+1,2,none⟩=some (.int .i64 lm'):=cells_at hb rfl
 have a3:W.cell? ⟨w.heap.size,3,none⟩=some (.int .i64 sb):=cells_at ha rfl
 have b3:W.cell? ⟨w.heap.size+1,3,none⟩=some (.int .i64 sb'):=cells_at hb rfl
 have a4:W.cell? ⟨w.heap.size,4,none⟩=some (.int .i64 st):=cells_at ha rfl
 have b4:W.cell? ⟨w.heap.size+1,4,none⟩=some (.int .i64 st'):=cells_at hb rfl
 have a5:W.cell? ⟨w.heap.size,5,none⟩=some (.int .i64 sr):=cells_at ha rfl
 have b5:W.cell? ⟨w.heap.size+1,5,none⟩=some (.int .i64 sr'):=cells_at hb rfl
 have a6:W.cell? ⟨w.heap.size,6,none⟩=some (.int .i64 en):=cells_at ha rfl
 have b6:W.cell? ⟨w.heap.size+1,6,none⟩=some (.int .i64 en'):=cells_at hb rfl
 have a7:W.cell? ⟨w.heap.size,7,none⟩=some (.slice sa xs.length sc):=cells_at ha rfl
 have b7:W.cell? ⟨w.heap.size+1,7,none⟩=some (.slice sa' xs'.length sc'):=cells_at hb rfl
 have HI:Hid _:=sameInts_b (w:=W) sc sc' (IntsAt.below hp HBW.out) (IntsAt.below hq HBW.out) hl
 clear ha hb hp hq hl
 by_cases h0:ac=ac'
 case neg=>
  have e0:(ac==ac')=false:=by simpa using h0
  have HK:Hid (¬ac=ac'):=h0
  clear h0 HI
  go_enter Tryz.func63,Tryz.ntmps63
  go_wp2
  go_ret
  exact Tells.no (fun h=>HK.out (congrArg Jv.ac h)) HBW.out
 subst h0
 by_cases h1:nd=nd'
 case neg=>
  have e1:(nd==nd')=false:=by simpa using h1
  have HK:Hid (¬nd=nd'):=h1
  clear h1 HI
  go_enter Tryz.func63,Tryz.ntmps63
  go_wp2
  go_ret
  exact Tells.no (fun h=>HK.out (congrArg Jv.nd h)) HBW.out
 subst h1
 by_cases h2:lm=lm'
 case neg=>
  have e2:(lm==lm')=false:=by simpa using h2
  have HK:Hid (¬lm=lm'):=h2
  clear h2 HI
  go_enter Tryz.func63,Tryz.ntmps63
  go_wp2
  go_ret
  exact Tells.no (fun h=>HK.out (congrArg Jv.lm h)) HBW.out
 subst h2
 by_cases h3:sb=sb'
 case neg=>
  have e3:(sb==sb')=false:=by simpa using h3
  have HK:Hid (¬sb=sb'):=h3
  clear h3 HI
  go_enter Tryz.func63,Tryz.ntmps63
  go_wp2
  go_ret
  exact Tells.no (fun h=>HK.out (congrArg Jv.sb h)) HBW.out
 subst h3
 by_cases h4:st=st'
 case neg=>
  have e4:(st==st')=false:=by simpa using h4
  have HK:Hid (¬st=st'):=h4
  clear h4 HI
  go_enter Tryz.func63,Tryz.ntmps63
  go_wp2
  go_ret
  exact Tells.no (fun h=>HK.out (congrArg Jv.st h)) HBW.out
 subst h4
 by_cases h5:sr=sr'
 case neg=>
  have e5:(sr==sr')=false:=by simpa using h5
  have HK:Hid (¬sr=sr'):=h5
  clear h5 HI
  go_enter Tryz.func63,Tryz.ntmps63
  go_wp2
  go_ret
  exact Tells.no (fun h=>HK.out (congrArg Jv.sr h)) HBW.out
 subst h5
 by_cases h6:en=en'
 case neg=>
  have e6:(en==en')=false:=by simpa using h6
  have HK:Hid (¬en=en'):=h6
  clear h6 HI
  go_enter Tryz.func63,Tryz.ntmps63
  go_wp2
  go_ret
  exact Tells.no (fun h=>HK.out (congrArg Jv.en h)) HBW.out
 subst h6
 go_enter Tryz.func63,Tryz.ntmps63
 go_wp2_with (go_at_call 32;refine(show Calls _ _ _ _ _ from HI.out).mono ?_;rintro e w1 ⟨b,rfl,hbb,hb1⟩;have HBB:Hid _:=hbb;have HB1:Hid _:=hb1;clear hbb hb1)
 go_ret
 exact⟨b,rfl,⟨fun h=>by rw [HBB.out.1 h],fun h=>HBB.out.2 (congrArg Jv.set h)⟩,HBW.out.trans (HB1.out.mono HBW.out.size)⟩
end Go.Proofs.YtceoibfliggalaaGreatDoor
namespace Go.Proofs.YtceoibfliggalaaGreatDoor
open Go.RowKit Wd Tr Cg Lg
theorem map_len {ps qs:List Pj} (h:ps.map Pj.v=qs.map Pj.v):ps.length=qs.length:=by have:=congrArg List.length h;simpa using this
theorem map_at {ps:List Pj} {k:Nat} {p:Pj} (h:ps[k]?=some p):(ps.map Pj.v)[k]?=some p.v:=by rw [List.getElem?_map,h];rfl
theorem jb_and {W:World} {g o:Nat} {p:Pj} {R:Prop} (h:JbAt W g o p.jb) (r:R):W.cell? ⟨g,o,none⟩=some (.int .i64 p.v.ac)∧W.cell? ⟨g,o+1,none⟩=some (.int .i64 p.v.nd)∧W.cell? ⟨g,o+2,none⟩=some (.int .i64 p.v.lm)∧W.cell? ⟨g,o+3,none⟩=some (.int .i64 p.v.sb)∧W.cell? ⟨g,o+4,none⟩=some (.int .i64 p.v.st)∧W.cell? ⟨g,o+5,none⟩=some (.int .i64 p.v.sr)∧W.cell? ⟨g,o+6,none⟩=some (.int .i64 p.v.en)∧W.cell? ⟨g,o+7,none⟩=some (.slice p.sa p.v.set.length p.sc)∧R:=⟨h.ac,h.nd,h.lm,h.sb,h.st,h.sr,h.en,h.se,r⟩
set_option maxRecDepth 20000 in
set_option maxHeartbeats 1000000 in
theorem sameJobs_b {w:World} {ao bo:Option Addr} {ps qs:List Pj} (c c':Nat) (hA:PjsAt w ao ps) (hB:PjsAt w bo qs) (hl:ps.length*80≤281474976710656) (hs:∀p∈ps,p.v.set.length*8≤140737488355328):
  Calls Tryz.prog 31 #[.slice ao ps.length c,.slice bo qs.length c'] w (Tells w (ps.map Pj.v=qs.map Pj.v)):=by
 obtain⟨g,o,h1,h2⟩:=row_at hA
 obtain⟨g',o',h3,h4⟩:=row_at hB
 by_cases hne:ps.length=qs.length
 ·obtain ⟨n,hn⟩:∃n,ps.length=n:=⟨_,rfl⟩
  have HN:Hid (ps.length=n):=hn
  have HM:Hid (qs.length=n):=hne.symm.trans hn
  have HJ:Hid (∀x,Below w.heap.size w x→∀k p q,ps[k]?=some p→qs[k]?=some q→Calls Tryz.prog 63 #[pjV p,pjV q] x (Tells x (p.v=q.v))):=fun x b k p q hp hq=>sameJob_b ((hA.sets p (List.mem_of_getElem? hp)).below b) ((hB.sets q (List.mem_of_getElem? hq)).below b) (by have:=hs p (List.mem_of_getElem? hp);omega)
  rw [← hne,hn]at h3 ⊢
  rw [hn]at h1 hl
  have H1:Hid _:=h1
  have H2:Hid _:=h2
  have H3:Hid _:=h3
  have H4:Hid _:=h4
  clear h1 h2 h3 h4 hn hne hA hB hs
  go_enter Tryz.func31,Tryz.ntmps31
  go_wp2
  go_loopg [5] n (fun gk p wr=>∃(k:Nat),k+gk=n∧p=.int .i64 k∧Below w.heap.size w wr∧(ps.map Pj.v).take k=(qs.map Pj.v).take k)
  case atStart=>exact⟨0,by omega,rfl,Below.refl _ _,rfl⟩
  case round=>
   obtain⟨k,hk,rfl,hb,he⟩:=hrel
   have HE:Hid ((ps.map Pj.v).take k=(qs.map Pj.v).take k):=he
   clear he
   have HB:Hid (Below w.heap.size w wr):=hb
   by_cases hlt:k<n
   ·have hlt':(k:Int)<n:=by omega
    obtain⟨x,hx⟩:∃x,ps[k]?=some x:=⟨_,List.getElem?_eq_getElem (by rw [HN.out];exact hlt)⟩
    obtain⟨y,hy⟩:∃y,qs[k]?=some y:=⟨_,List.getElem?_eq_getElem (by rw [HM.out];exact hlt)⟩
    have e1:=H1.out (by omega)
    have e3:=H3.out (by omega)
    subst e1
    subst e3
    have HX:Hid ((ps.map Pj.v)[k]?=some x.v):=map_at hx
    have HY:Hid ((qs.map Pj.v)[k]?=some y.v):=map_at hy
    have HD:Hid (Below w.heap.size w wr.drew):=hb.trans ((bel_drawU wr 1).mono hb.size)
    have hf:∀xx,Below wr.drew.heap.size wr.drew xx→_:=fun xx bx=>jb_and (H2.out xx (HD.out.trans (bx.mono HD.out.size)) k x hx) (jb_and (H4.out xx (HD.out.trans (bx.mono HD.out.size)) k y hy) trivial)
    have HC:Hid (∀xx,Below wr.drew.heap.size wr.drew xx→Calls Tryz.prog 63 #[pjV x,pjV y] xx (Tells xx (x.v=y.v))):=fun xx bx=>HJ.out xx (HD.out.trans (bx.mono HD.out.size)) k x y hx hy
    clear hb hx hy
    obtain⟨⟨ac,nd,lm,sb,st,sr,en,xs⟩,sa,sc⟩:=x
    obtain⟨⟨ac',nd',lm',sb',st',sr',en',xs'⟩,sa',sc'⟩:=y
    unfold pjV at HC
    dsimp only at hf HC HX HY
    have HF:Hid _:=hf
    clear hf
    go_upto_region 6 with fail
    refine wp_region_last (S:=Below wr.drew.heap.size wr.drew) (L:=99) (by kernel_rfl) ?_
    have HS0:Below wr.drew.heap.size wr.drew wr.drew:=Below.refl _ _
    refine tk 0 HS0 (h:=?_)
    refine tk 1 HS0 (h:=?_)
    refine tk 2 HS0 (h:=?_)
    refine tk 3 HS0 (h:=?_)
    refine tk 4 HS0 (h:=?_)
    refine tk 5 HS0 (h:=?_)
    refine tk 6 HS0 (h:=?_)
    refine tk 7 HS0 (h:=?_)
    refine last_one (i:=8) (by kernel_rfl) rfl ?_
    intro K hK
    go_simp
    go_at_call 63
    refine((show ∀xx,_→Calls _ _ _ xx (Tells xx _)from HC.out) _ HS0).mono ?_
    rintro e w2 ⟨b,rfl,hbb,hb2⟩
    have HS2:Below wr.drew.heap.size wr.drew w2:=hb2
    have HBB:Hid _:=hbb
    go_simp
    refine hK.out _ _ (fun _=>HS2) (fun _=>?_)
    clear hK K hbb HF
    refine tk 9 HS2 (h:=?_)
    refine last_done (by kernel_rfl) ?_ _
    have HB2:Hid (Below w.heap.size w w2):=HD.out.trans (hb2.mono HD.out.size)
    clear HC HS0 HS2 hb2
    cases b with
    | true=>
     have HV:Hid _:=HBB.out.1 rfl
     go_wp2
     go_roundg (n - (k+1))
     case measure=>omega
     case rel=>exact⟨k+1,by omega,by go_num,HB2.out,take_next HE.out HX.out (HY.out.trans (congrArg some HV.out.symm))⟩
    | false=>
     have HV:Hid (¬ps.map Pj.v=qs.map Pj.v):=ne_at HX.out HY.out fun e=>by have:=HBB.out.2 e;cases this
     go_wp2
     go_ret
     exact Tells.no HV.out HB2.out
   ·have hlt':¬(k:Int)<n:=by omega
    obtain rfl:k=n:=by omega
    clear hb
    go_wp2
    go_ret
    exact Tells.yes (take_all HE.out (by rw [List.length_map];exact HN.out) (by rw [List.length_map];exact HM.out)) HB.out
 ·have HF:Hid (¬ps.map Pj.v=qs.map Pj.v):=fun h=>hne (map_len h)
  have hne':((ps.length:Int) != (qs.length:Int))=true:=by
   have:(ps.length:Int)≠(qs.length:Int):=by omega
   simpa using this
  generalize ps.length=n at *
  generalize qs.length=m at *
  go_enter Tryz.func31,Tryz.ntmps31
  go_wp2
  go_ret
  exact Tells.no HF.out (Below.refl _ _)
end Go.Proofs.YtceoibfliggalaaGreatDoor
namespace Go.Proofs.YtceoibfliggalaaGreatDoor
open Go.RowKit Wd Tr Cg Lg
theorem Tells.is {w w':World} {p:Prop} {e:Ending} (hp:p) (h:Tells w p e w'):e=.returned (.bool true)∧Below w.heap.size w w':=by
 obtain⟨b,rfl,h1,h2⟩:=h
 rw [h1.2 hp]
 exact⟨rfl,h2⟩
theorem Tells.not {w w':World} {p:Prop} {e:Ending} (hp:¬p) (h:Tells w p e w'):e=.returned (.bool false)∧Below w.heap.size w w':=by
 obtain⟨b,rfl,h1,h2⟩:=h
 cases b with
 | true=>exact absurd (h1.1 rfl) hp
 | false=>exact⟨rfl,h2⟩
set_option maxRecDepth 20000 in
theorem cf_neq {w:World} {c c':Cf} (h:c≠c'):(binOp .eql 23 (.agg #[.int .i64 c.nodes,.int .i64 c.queue,.int .i64 c.limit,.int .i64 c.age,.int .i64 c.fair,.int .i64 c.size,.int .i64 c.period,.int .i64 c.half]) (.agg #[.int .i64 c'.nodes,.int .i64 c'.queue,.int .i64 c'.limit,.int .i64 c'.age,.int .i64 c'.fair,.int .i64 c'.size,.int .i64 c'.period,.int .i64 c'.half])).run Tryz.prog w=.ok (.bool false) w:=by
 go_simp
 intro h0 h1 h2 h3 h4 h5 h6 h7
 refine h ?_
 obtain⟨a0,a1,a2,a3,a4,a5,a6,a7⟩:=c
 obtain⟨b0,b1,b2,b3,b4,b5,b6,b7⟩:=c'
 simp only at h0 h1 h2 h3 h4 h5 h6 h7
 subst h0 h1 h2 h3 h4 h5 h6 h7
 rfl
set_option maxRecDepth 20000 in
set_option maxHeartbeats 2000000 in
theorem sameState_b {w:World} {c c':Cf} {now now' hd hd':Int} {ao ao' jo jo':Option Addr} {la la':List Ac} {ps ps':List Pj} (ca cj ca' cj':Nat) (hA:AcsAt w ao la) (hA':AcsAt w ao' la') (hJ:PjsAt w jo ps) (hJ':PjsAt w jo' ps') (hl:la.length≤140737488355328) (hn:ps.length*80≤281474976710656) (hs:∀p∈ps,p.v.set.length*8≤140737488355328):
  Calls Tryz.prog 19 #[.agg (stL c now ao la.length ca jo ps.length cj hd),.agg (stL c' now' ao' la'.length ca' jo' ps'.length cj' hd')] w (Tells w (c=c'∧now=now'∧hd=hd'∧la=la'∧ps.map Pj.v=ps'.map Pj.v)):=by
 unfold stL
 obtain⟨W,hW⟩:∃W,(w.alloc (.cells #[.int .i64 c.nodes,.int .i64 c.queue,.int .i64 c.limit,.int .i64 c.age,.int .i64 c.fair,.int .i64 c.size,.int .i64 c.period,.int .i64 c.half,.int .i64 now,.slice ao la.length ca,.slice jo ps.length cj,.int .i64 hd] 27)).alloc (.cells #[.int .i64 c'.nodes,.int .i64 c'.queue,.int .i64 c'.limit,.int .i64 c'.age,.int .i64 c'.fair,.int .i64 c'.size,.int .i64 c'.period,.int .i64 c'.half,.int .i64 now',.slice ao' la'.length ca',.slice jo' ps'.length cj',.int .i64 hd'] 27)=W:=⟨_,rfl⟩
 have hsz:(w.alloc (.cells #[.int .i64 c.nodes,.int .i64 c.queue,.int .i64 c.limit,.int .i64 c.age,.int .i64 c.fair,.int .i64 c.size,.int .i64 c.period,.int .i64 c.half,.int .i64 now,.slice ao la.length ca,.slice jo ps.length cj,.int .i64 hd] 27)).heap.size=w.heap.size+1:=by simp
 have HBW:Hid (Below w.heap.size w W):=by show Below _ _ _;rw [← hW];exact((Below.refl _ w).alloc (Nat.le_refl _) _).alloc (by rw [hsz];omega) _
 have hb:W.heap[w.heap.size+1]?=some (.cells #[.int .i64 c'.nodes,.int .i64 c'.queue,.int .i64 c'.limit,.int .i64 c'.age,.int .i64 c'.fair,.int .i64 c'.size,.int .i64 c'.period,.int .i64 c'.half,.int .i64 now',.slice ao' la'.length ca',.slice jo' ps'.length cj',.int .i64 hd'] 27 (0,0)):=by rw [← hW,←hsz];exact heap_alloc_new _ _
 have ha:W.heap[w.heap.size]?=some (.cells #[.int .i64 c.nodes,.int .i64 c.queue,.int .i64 c.limit,.int .i64 c.age,.int .i64 c.fair,.int .i64 c.size,.int .i64 c.period,.int .i64 c.half,.int .i64 now,.slice ao la.length ca,.slice jo ps.length cj,.int .i64 hd] 27 (0,0)):=by rw [← hW];exact(((Below.refl _ (w.alloc (.cells #[.int .i64 c.nodes,.int .i64 c.queue,.int .i64 c.limit,.int .i64 c.age,.int .i64 c.fair,.int .i64 c.size,.int .i64 c.period,.int .i64 c.half,.int .i64 now,.slice ao la.length ca,.slice jo ps.length cj,.int .i64 hd] 27))).alloc (Nat.le_refl _) _).block w.heap.size (by rw [hsz];omega)).trans (heap_alloc_new w _)
 clear hsz
 have a0:W.cell? ⟨w.heap.size,0,none⟩=some (.int .i64 c.nodes):=cells_at ha rfl
 have b0:W.cell? ⟨w.heap.size+1,0,none⟩=some (.int .i64 c'.nodes):=cells_at hb rfl
 have a1:W.cell? ⟨w.heap.size,1,none⟩=some (.int .i64 c.queue):=cells_at ha rfl
 have b1:W.cell? ⟨w.heap.size+1,1,none⟩=some (.int .i64 c'.queue):=cells_at hb rfl
 have a2:W.cell? ⟨w.heap.size,2,none⟩=some (.int .i64 c.limit):=cells_at ha rfl
 have b2:W.cell? ⟨w.heap.size+1,2,none⟩=some (.int .i64 c'.limit):=cells_at hb rfl
 have a3:W.cell? ⟨w.heap.size,3,none⟩=some (.int .i64 c.age):=cells_at ha rfl
 have b3:W.cell? ⟨w.heap.size+1,3,none⟩=some (.int .i64 c'.age):=cells_at hb rfl
 have a4:W.cell? ⟨w.heap.size,4,none⟩=some (.int .i64 c.fair):=cells_at ha rfl
 have b4:W.cell? ⟨w.heap.size+1,4,none⟩=some (.int .i64 c'.fair):=cells_at hb rfl
 have a5:W.cell? ⟨w.heap.size,5,none⟩=some (.int .i64 c.size):=cells_at ha rfl
 have b5:W.cell? ⟨w.heap.size+1,5,none⟩=some (.int .i64 c'.size):=cells_at hb rfl
 have a6:W.cell? ⟨w.heap.size,6,none⟩=some (.int .i64 c.period):=cells_at ha rfl
 have b6:W.cell? ⟨w.heap.size+1,6,none⟩=some (.int .i64 c'.period):=cells_at hb rfl
 have a7:W.cell? ⟨w.heap.size,7,none⟩=some (.int .i64 c.half):=cells_at ha rfl
 have b7:W.cell? ⟨w.heap.size+1,7,none⟩=some (.int .i64 c'.half):=cells_at hb rfl
 have a8:W.cell? ⟨w.heap.size,8,none⟩=some (.int .i64 now):=cells_at ha rfl
 have b8:W.cell? ⟨w.heap.size+1,8,none⟩=some (.int .i64 now'):=cells_at hb rfl
 have a9:W.cell? ⟨w.heap.size,9,none⟩=some (.slice ao la.length ca):=cells_at ha rfl
 have b9:W.cell? ⟨w.heap.size+1,9,none⟩=some (.slice ao' la'.length ca'):=cells_at hb rfl
 have a10:W.cell? ⟨w.heap.size,10,none⟩=some (.slice jo ps.length cj):=cells_at ha rfl
 have b10:W.cell? ⟨w.heap.size+1,10,none⟩=some (.slice jo' ps'.length cj'):=cells_at hb rfl
 have a11:W.cell? ⟨w.heap.size,11,none⟩=some (.int .i64 hd):=cells_at ha rfl
 have b11:W.cell? ⟨w.heap.size+1,11,none⟩=some (.int .i64 hd'):=cells_at hb rfl
 have HX:Hid (∀x,Below W.heap.size W x→x.cell? ⟨w.heap.size,10,none⟩=some (.slice jo ps.length cj)∧x.cell? ⟨w.heap.size+1,10,none⟩=some (.slice jo' ps'.length cj')):=fun x b=>⟨cellB b a10,cellB b b10⟩
 have HA:Hid _:=sameAccounts_b (w:=W) ca ca' (AcsAt.below hA HBW.out) (AcsAt.below hA' HBW.out) hl
 have HJ:Hid (∀x,Below W.heap.size W x→Calls Tryz.prog 31 #[.slice jo ps.length cj,.slice jo' ps'.length cj'] x (Tells x (ps.map Pj.v=ps'.map Pj.v))):=fun x b=>sameJobs_b cj cj' (hJ.below (HBW.out.trans (b.mono HBW.out.size))) (hJ'.below (HBW.out.trans (b.mono HBW.out.size))) hn hs
 clear ha hb hA hA' hJ hJ' hl hn hs
 by_cases h0:c=c'
 case neg=>
  have HK:Hid (¬c=c'):=h0
  have hq:∀x':World,(binOp .eql 23 (.agg #[.int .i64 c.nodes,.int .i64 c.queue,.int .i64 c.limit,.int .i64 c.age,.int .i64 c.fair,.int .i64 c.size,.int .i64 c.period,.int .i64 c.half]) (.agg #[.int .i64 c'.nodes,.int .i64 c'.queue,.int .i64 c'.limit,.int .i64 c'.age,.int .i64 c'.fair,.int .i64 c'.size,.int .i64 c'.period,.int .i64 c'.half])).run Tryz.prog x'=.ok (.bool false) x':=fun x'=>cf_neq h0
  clear h0 HA HJ
  go_enter Tryz.func19,Tryz.ntmps19
  go_wp2
  go_ret
  exact Tells.no (fun h=>HK.out h.1) HBW.out
 subst h0
 by_cases h1:now=now'
 case neg=>
  have e1:(now==now')=false:=by simpa using h1
  have HK:Hid (¬now=now'):=h1
  clear h1 HA HJ
  go_enter Tryz.func19,Tryz.ntmps19
  go_wp2
  go_ret
  exact Tells.no (fun h=>HK.out h.2.1) HBW.out
 subst h1
 by_cases h2:hd=hd'
 case neg=>
  have e2:(hd==hd')=false:=by simpa using h2
  have HK:Hid (¬hd=hd'):=h2
  clear h2 HA HJ
  go_enter Tryz.func19,Tryz.ntmps19
  go_wp2
  go_ret
  exact Tells.no (fun h=>HK.out h.2.2.1) HBW.out
 subst h2
 by_cases h3:la=la'
 case neg=>
  have HK:Hid (¬la=la'):=h3
  clear h3 HJ
  go_enter Tryz.func19,Tryz.ntmps19
  go_wp2_with (go_at_call 30;refine(show Calls _ _ _ _ _ from HA.out).mono ?_;intro e w1 hx;obtain⟨rfl,hb1⟩:=Tells.not HK.out hx;have HB1:Hid _:=hb1;clear hb1 hx)
  go_ret
  exact Tells.no (fun h=>HK.out h.2.2.2.1) (HBW.out.trans (HB1.out.mono HBW.out.size))
 have HE:Hid (la=la'):=h3
 clear h3
 by_cases h4:ps.map Pj.v=ps'.map Pj.v
 case neg=>
  have HK:Hid (¬ps.map Pj.v=ps'.map Pj.v):=h4
  clear h4
  go_enter Tryz.func19,Tryz.ntmps19
  go_wp2_with (first
   | (go_at_call 30;refine(show Calls _ _ _ _ _ from HA.out).mono ?_;intro e w1 hx;obtain⟨rfl,hb1⟩:=Tells.is HE.out hx;obtain⟨d0,d1⟩:=HX.out w1 hb1;have HB1:Hid (Below W.heap.size W w1):=hb1;clear hb1 hx)
   | (go_at_call 31;refine(show Calls _ _ _ _ _ from HJ.out w1 HB1.out).mono ?_;intro e w2 hx;obtain⟨rfl,hb2⟩:=Tells.not HK.out hx;have HB2:Hid (Below w1.heap.size w1 w2):=hb2;clear hb2 hx))
  go_ret
  exact Tells.no (fun h=>HK.out h.2.2.2.2) ((HBW.out.trans (HB1.out.mono HBW.out.size)).trans (HB2.out.mono (HBW.out.trans (HB1.out.mono HBW.out.size)).size))
 have HK:Hid (ps.map Pj.v=ps'.map Pj.v):=h4
 clear h4
 go_enter Tryz.func19,Tryz.ntmps19
 go_wp2_with (first
  | (go_at_call 30;refine(show Calls _ _ _ _ _ from HA.out).mono ?_;intro e w1 hx;obtain⟨rfl,hb1⟩:=Tells.is HE.out hx;obtain⟨d0,d1⟩:=HX.out w1 hb1;have HB1:Hid (Below W.heap.size W w1):=hb1;clear hb1 hx)
  | (go_at_call 31;refine(show Calls _ _ _ _ _ from HJ.out w1 HB1.out).mono ?_;intro e w2 hx;obtain⟨rfl,hb2⟩:=Tells.is HK.out hx;have HB2:Hid (Below w1.heap.size w1 w2):=hb2;clear hb2 hx))
 go_ret
 exact Tells.yes ⟨trivial,trivial,trivial,HE.out,HK.out⟩ ((HBW.out.trans (HB1.out.mono HBW.out.size)).trans (HB2.out.mono (HBW.out.trans (HB1.out.mono HBW.out.size)).size))
end Go.Proofs.YtceoibfliggalaaGreatDoor
