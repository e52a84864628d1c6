/-
  TEXTS: SnW, SnY, SnZ, SoA, SoB.
-/
import Derived.Test.YtceoibfliggalaaGreatDoorKr42
import Derived.Test.YtceoibfliggalaaGreatDoorKr46
import Derived.Test.YtceoibfliggalaaGreatDoorKr38
namespace Go.Proofs.YtceoibfliggalaaGreatDoor
open Go.RowKit Wd Tr Cg Ld Lg
set_option maxRecDepth 20000 in
set_option maxHeartbeats 2000000 in
theorem restore_none {w:World} {ao:Option Addr} {r:List UInt8} {c0:Nat} {c:Cf} {la:List Ac} (hb:∃g o,(0<r.length→ao=some ⟨g,o,none⟩)∧∀k b,r[k]?=some b→w.cell? ⟨g,o+k,none⟩=some (.int .u8 (b.toNat:Int))) (hc:r.length≤c0) (hn:ao=none→c0=0) (hl:r.length≤140737488355328)
  (h7:rd7 r≠none) (h2:(rd2 r).1= [c.nodes,c.queue,c.limit,c.age,c.fair,c.size,c.period,c.half,0, -1]) (h4:(rd4 r).1=la) (h6:(rd6 r).1= []) (hok:auditV (chkZ c) ⟨c,0,la,[], -1⟩=0) (hld:loadE la=0) (hck:chkZ c=0) (hus:Lr.Lg.Wds (usL la)) (hl64:la.length≤64) (hrt:Tab w) (hn1:1≤c.nodes) (hn2:c.nodes≤256):
  Calls Tryz.prog 26 #[.slice ao r.length c0] w fun e w'=>(∃x:Nat,e=.returned (.tuple #[.pointer (some ⟨x,0,none⟩),.int .i64 0]))∧Below w.heap.size w w':=by
 have hbk:=read_back (c:=c) (now:=0) (hd:= -1) h7 h2
 rw [h4,h6]at hbk
 have HGET:Hid (Calls Tryz.prog 17 #[.slice ao r.length c0] w fun e w'=>∃gA gJ,e=.returned (.tuple #[.agg (stC c 0 (.slice (some ⟨gA,0,none⟩) la.length la.length) (.slice (some ⟨gJ,0,none⟩) 0 0) (-1)),.int .i64 0])∧StIn w' (some ⟨gA,0,none⟩) la la.length (some ⟨gJ,0,none⟩) [] 0∧wtN la []≤281474976710656∧Below w.heap.size w w'):=by
  refine(get_any hb hc hn hl).mono ?_
  rintro e w' ⟨c',now,hd,gA,gJ,qs,k1,k2,k3,k4⟩
  have hq:qs= []:=by rw [h6]at k2;exact List.map_eq_nil_iff.1 k2
  subst hq
  rw [h2]at k1
  simp only [List.cons.injEq,and_true]at k1
  obtain⟨e0,e1,e2,e3,e4,e5,e6,e7,e8,e9⟩:=k1
  have hcc:c'=c:=by cases c';cases c;simp only at e0 e1 e2 e3 e4 e5 e6 e7;subst e0 e1 e2 e3 e4 e5 e6 e7;rfl
  subst hcc
  subst e8
  subst e9
  rw [h4]at k3
  rw [if_neg h7,if_pos (show auditV (chkZ c') ⟨c',0,la,List.map Pj.v [], -1⟩=0 from hok)]at k3
  obtain⟨m1,m2⟩:=k3
  obtain⟨hin,hwt⟩:=st_read (c:=c') (now:=0) (hd:= -1) m2 (by show (stB ⟨c',0,la,[], -1⟩).length≤_;rw [hbk];exact hl) (by rw [← h4];exact acs_us _ _)
  exact⟨gA,gJ,m1,hin,hwt,k4⟩
 have HLD:Hid (∀(x:World) (gA gJ:Nat),Below w.heap.size w x→StIn x (some ⟨gA,0,none⟩) la la.length (some ⟨gJ,0,none⟩) [] 0→wtN la []≤281474976710656→Calls Tryz.prog 45 #[.agg (stC c 0 (.slice (some ⟨gA,0,none⟩) la.length la.length) (.slice (some ⟨gJ,0,none⟩) 0 0) (-1))] x fun e w'=>(∃x:Nat,e=.returned (.tuple #[.pointer (some ⟨x,0,none⟩),.int .i64 0]))∧Below x.heap.size x w'):=fun x gA gJ hx hi hw=>load_none hi hw hok hld hck hus hl64 (hrt.below hx) hn1 hn2
 obtain⟨q,hq⟩:∃q,r.length=q:=⟨_,rfl⟩
 obtain⟨n,hnl⟩:∃n,la.length=n:=⟨_,rfl⟩
 rw [hq]at HGET ⊢
 rw [hnl]at HGET HLD
 unfold stC at HGET HLD
 have HN:Hid _:=hnl
 clear hb hc hn hl h7 h2 h4 h6 hok hld hck hus hl64 hrt hn1 hn2 hbk hq hnl
 go_enter Tryz.func26,Tryz.ntmps26
 go_upto_region 2 with(go_at_call 17;refine(show Calls _ _ _ _ _ from HGET.out).mono ?_;rintro e w1 ⟨gA,gJ,rfl,hin,hwt,hb1⟩;have HIN:Hid _:=hin;have HWT:Hid _:=hwt;have HB1:Hid _:=hb1;clear hin hwt hb1)
 obtain⟨W2,hW2⟩:∃W2,w1.alloc (.cells #[.int .i64 c.nodes,.int .i64 c.queue,.int .i64 c.limit,.int .i64 c.age,.int .i64 c.fair,.int .i64 c.size,.int .i64 c.period,.int .i64 c.half,.int .i64 0,.slice (some ⟨gA,0,none⟩) n n,.slice (some ⟨gJ,0,none⟩) 0 0,.int .i64 (-1)] 27)=W2:=⟨_,rfl⟩
 have b2:Below w1.heap.size w1 W2:=by rw [← hW2];exact(Below.refl _ _).alloc (Nat.le_refl _) _
 have hg2:W2.heap[w1.heap.size]?=some (.cells #[.int .i64 c.nodes,.int .i64 c.queue,.int .i64 c.limit,.int .i64 c.age,.int .i64 c.fair,.int .i64 c.size,.int .i64 c.period,.int .i64 c.half,.int .i64 0,.slice (some ⟨gA,0,none⟩) n n,.slice (some ⟨gJ,0,none⟩) 0 0,.int .i64 (-1)] 27 (0,0)):=by rw [← hW2];exact heap_alloc_new w1 _
 have HBB:Hid (Below w.heap.size w W2):=HB1.out.trans (b2.mono HB1.out.size)
 have hld:=HLD.out W2 gA gJ HBB.out (HIN.out.below b2) HWT.out
 have p0:W2.cell? ⟨w1.heap.size,0,none⟩=some (.int .i64 c.nodes):=cells_at hg2 rfl
 have p1:W2.cell? ⟨w1.heap.size,1,none⟩=some (.int .i64 c.queue):=cells_at hg2 rfl
 have p2:W2.cell? ⟨w1.heap.size,2,none⟩=some (.int .i64 c.limit):=cells_at hg2 rfl
 have p3:W2.cell? ⟨w1.heap.size,3,none⟩=some (.int .i64 c.age):=cells_at hg2 rfl
 have p4:W2.cell? ⟨w1.heap.size,4,none⟩=some (.int .i64 c.fair):=cells_at hg2 rfl
 have p5:W2.cell? ⟨w1.heap.size,5,none⟩=some (.int .i64 c.size):=cells_at hg2 rfl
 have p6:W2.cell? ⟨w1.heap.size,6,none⟩=some (.int .i64 c.period):=cells_at hg2 rfl
 have p7:W2.cell? ⟨w1.heap.size,7,none⟩=some (.int .i64 c.half):=cells_at hg2 rfl
 have p8:W2.cell? ⟨w1.heap.size,8,none⟩=some (.int .i64 0):=cells_at hg2 rfl
 have p9:W2.cell? ⟨w1.heap.size,9,none⟩=some (.slice (some ⟨gA,0,none⟩) n n):=cells_at hg2 rfl
 have p10:W2.cell? ⟨w1.heap.size,10,none⟩=some (.slice (some ⟨gJ,0,none⟩) 0 0):=cells_at hg2 rfl
 have p11:W2.cell? ⟨w1.heap.size,11,none⟩=some (.int .i64 (-1)):=cells_at hg2 rfl
 rw [hW2]
 clear hW2 b2 hg2 HGET HLD HIN HWT HB1
 go_wp2_with (go_at_call 45;refine(show Calls _ _ _ _ _ from hld).mono ?_;rintro e w3 ⟨⟨y,rfl⟩,hb3⟩)
 go_ret2
 exact⟨⟨y,rfl⟩,HBB.out.trans (hb3.mono HBB.out.size)⟩
end Go.Proofs.YtceoibfliggalaaGreatDoor
namespace Go.Proofs.YtceoibfliggalaaGreatDoor
open Go.RowKit Wd Tr Cg Ld Lg
def svEx:Sv:=⟨cEx,0,[rootAc],[], -1⟩
theorem ex_audit:auditV (chkZ cEx) svEx=0:=by
 rw [ex_chk]
 unfold auditV
 rw [if_neg (by simp),if_neg (by decide),if_neg (fun h=>h load_root),if_neg (by decide)]
 decide
theorem ex_len:(stB svEx).length=149:=by
 rw [st_parts]
 show 105+([rootAc].flatMap acB).length+0=149
 rw [List.flatMap_cons,List.length_append,ac_len]
 rfl
theorem ex_mark:(stB svEx).take 9=markB:=List.take_left' rfl
theorem root_ok:AcOk rootAc:=⟨by unfold I64;decide,by unfold I64;decide,by unfold Word;decide,by decide⟩
theorem ex_ok:StOk svEx where
 head:=by
  intro n hn
  have:n∈ [(4:Int),8,10,1,0,0,100,100,0, -1]:=hn
  simp only [List.mem_cons,List.not_mem_nil,or_false]at this
  unfold I64
  omega
 acs:=by
  intro a ha
  rw [List.mem_singleton.1 (show a∈ [rootAc]from ha)]
  exact root_ok
 jobs:=fun j hj=>absurd (show j∈ []from hj) List.not_mem_nil
 la:=by decide
 js:=by decide
theorem zero_chk (s:Sv):auditV (chkZ ⟨0,0,0,0,0,0,0,0⟩) s=170:=by
 unfold auditV
 rw [if_pos]
 unfold chkZ
 rw [if_pos (fun h=>absurd h.n0 (by decide))]
 decide
theorem nil_none:rd7 []=none:=by decide
end Go.Proofs.YtceoibfliggalaaGreatDoor
namespace Go.Proofs.YtceoibfliggalaaGreatDoor
open Go.RowKit Wd Tr Cg Ld Lg
theorem load_cf {W:World} {b:Nat} {cs:Array Value} (h:W.heap[b]?=some (.cells cs 23 (0,0))) (hs:cs.size=8):(loadVar 23 ⟨b,0,none⟩).run Tryz.prog W=.ok (.agg cs) W:=by
 refine run_loadVar_row W b 23 23 cs (0,0) _ h Tryz.underlying23 rfl ?_
 rw [hs];exact Tryz.infCf
theorem ret_cf {f:Func} {r:Nat} {a:Act} {W:World} {b:Nat} {old cs:Array Value} {R:Ending→World→Prop} (hf:f.results= #[ResultVar.cell r 23]) (ht:a.tmps[r]?=some (.pointer (some ⟨b,0,none⟩))) (hd:a.defers= []) (hg:W.heap[b]?=some (.cells old 23 (0,0))) (hs:cs.size=8) (hR:R (.returned (.agg cs)) (W.setRow b cs)):bodyPost Tryz.prog f R .ret a (W.setRow b cs):=
 bodyPost_ret (v:=.agg cs) (res_cell hf ht (load_cf (setRow_heap W b old cs _ _ hg) hs)) hd hR
set_option maxRecDepth 20000 in
theorem splain_any (w:World):Calls Tryz.prog 24 #[] w fun e w'=>e=.returned (cfV cEx)∧Below w.heap.size w w':=by
 obtain⟨W,hW⟩:∃W,w.alloc (.cells #[.int .i64 0,.int .i64 0,.int .i64 0,.int .i64 0,.int .i64 0,.int .i64 0,.int .i64 0,.int .i64 0] 23)=W:=⟨_,rfl⟩
 have bW:Below w.heap.size w W:=by rw [← hW];exact(Below.refl _ _).alloc (Nat.le_refl _) _
 have HG:Hid (W.heap[w.heap.size]?=some (.cells #[.int .i64 0,.int .i64 0,.int .i64 0,.int .i64 0,.int .i64 0,.int .i64 0,.int .i64 0,.int .i64 0] 23 (0,0))):=by show W.heap[w.heap.size]?=_;rw [← hW];exact heap_alloc_new w _
 go_enter Tryz.func24,Tryz.ntmps24
 go_upto_region 1 with fail
 clear hW
 go_wp2_with (refine wpList_store_row rfl 23 (.tmp 0) (.tmp 1) rfl w.heap.size #[.int .i64 4,.int .i64 8,.int .i64 10,.int .i64 1,.int .i64 0,.int .i64 0,.int .i64 100,.int .i64 100] (by simp [Act.eval]) (by simp [Act.eval]) 23 _ HG.out Tryz.infCf rfl (by simp [Value.oneCell']) ?_)
 refine ret_cf Tryz.results24 rfl rfl HG.out rfl ⟨rfl,?_⟩
 exact Chg.below (chg_row (K:=fun k=>k=w.heap.size) (Chg.refl _ W) (.inl rfl) _) bW bW.size (fun i hi=>by have:i=w.heap.size:=hi;omega)
end Go.Proofs.YtceoibfliggalaaGreatDoor
namespace Go.Proofs.YtceoibfliggalaaGreatDoor
open Go.RowKit Wd Tr Cg Ld Lg
def zCf:Cf:=⟨0,0,0,0,0,0,0,0⟩
theorem bytes_at {W:World} {B:Nat} {r:List UInt8} (h:W.heap[B]?=some (.cells (Lib.byteCells r).toArray 5 (0,0))):∃g o,(0<r.length→(some ⟨B,0,none⟩:Option Addr)=some ⟨g,o,none⟩)∧∀k b,r[k]?=some b→W.cell? ⟨g,o+k,none⟩=some (.int .u8 (b.toNat:Int)):=by
 refine⟨B,0,fun _=>rfl,fun k b hk=>?_⟩
 rw [Nat.zero_add]
 exact cells_at h (by simp [Lib.byteCells,hk])
theorem bytes_nil (W:World):∃g o,(0<([]:List UInt8).length→(none:Option Addr)=some ⟨g,o,none⟩)∧∀k b,([]:List UInt8)[k]?=some b→W.cell? ⟨g,o+k,none⟩=some (.int .u8 (b.toNat:Int)):=⟨0,0,fun h=>absurd h (by decide),fun k b hk=>by simp at hk⟩
theorem st_nil (W:World):StIn W none [] 0 none [] 0:=⟨⟨0,0,fun h=>absurd h (by decide),fun k b hk=>by simp at hk⟩,fun n a ha=>by simp at ha,fun a ha=>absurd ha List.not_mem_nil,by decide,Nat.le_refl _,fun _=>⟨rfl,rfl⟩,⟨⟨0,0,fun h=>absurd h (by decide),fun k b hk=>by simp at hk⟩,fun p hp=>absurd hp List.not_mem_nil⟩,by decide,Nat.le_refl _,fun _=>⟨rfl,rfl⟩,fun p hp=>absurd hp List.not_mem_nil,fun p hp=>absurd hp List.not_mem_nil,fun p hp=>absurd hp List.not_mem_nil⟩
set_option maxRecDepth 20000 in
theorem put_zero (w:World):Calls Tryz.prog 11 #[.agg #[.int .i64 0,.int .i64 0,.int .i64 0,.int .i64 0,.int .i64 0,.int .i64 0,.int .i64 0,.int .i64 0,.int .i64 0,.slice none 0 0,.slice none 0 0,.int .i64 0]] w fun e w'=>e=.returned (.tuple #[.slice none 0 0,.int .i64 191])∧Below w.heap.size w w':=by
 refine(put_any (w:=w) (la:= []) (ps:= []) zCf 0 0 (st_nil w) (by decide) (by rw [st_parts];decide)).mono ?_
 intro e w' k
 unfold PutP at k
 obtain⟨k1,k2⟩:=k
 rw [if_neg (by rw [show (chkZ (⟨zCf,0,[],List.map Pj.v [],0⟩:Sv).cf)=chkZ ⟨0,0,0,0,0,0,0,0⟩from rfl,zero_chk];decide)]at k1
 exact⟨k1,k2⟩
set_option maxRecDepth 20000 in
theorem get_nil (w:World):Calls Tryz.prog 17 #[.slice none 0 0] w fun e w'=>e=.returned (.tuple #[.agg #[.int .i64 0,.int .i64 0,.int .i64 0,.int .i64 0,.int .i64 0,.int .i64 0,.int .i64 0,.int .i64 0,.int .i64 0,.slice none 0 0,.slice none 0 0,.int .i64 0],.int .i64 190])∧Below w.heap.size w w':=by
 refine(get_any (w:=w) (r:= []) (c0:=0) (bytes_nil w) (Nat.le_refl _) (fun _=>rfl) (by decide)).mono ?_
 rintro e w' ⟨c,now,hd,gA,gJ,qs,_,_,k3,k4⟩
 rw [if_pos nil_none]at k3
 exact⟨k3,k4⟩
set_option maxRecDepth 20000 in
theorem get_ex {w:World} {B:Nat} (h:w.heap[B]?=some (.cells (Lib.byteCells (stB svEx)).toArray 5 (0,0))):Calls Tryz.prog 17 #[.slice (some ⟨B,0,none⟩) 149 149] w fun e w'=>∃gA gJ,e=.returned (.tuple #[.agg (stC cEx 0 (.slice (some ⟨gA,0,none⟩) 1 1) (.slice (some ⟨gJ,0,none⟩) 0 0) (-1)),.int .i64 0])∧Below w.heap.size w w':=by
 obtain⟨f1,f2,f3,f4⟩:=read_forth ex_ok
 have hg:=get_any (w:=w) (r:=stB svEx) (c0:=149) (bytes_at h) (by rw [ex_len];decide) nofun (by rw [ex_len];decide)
 rw [ex_len]at hg
 refine hg.mono ?_
 rintro e w' ⟨c,now,hd,gA,gJ,qs,k1,k2,k3,k4⟩
 rw [f1]at k1
 simp only [List.cons.injEq,and_true]at k1
 obtain⟨e0,e1,e2,e3,e4,e5,e6,e7,e8,e9⟩:=k1
 have hcc:c=cEx:=by cases c;simp only at e0 e1 e2 e3 e4 e5 e6 e7;subst e0 e1 e2 e3 e4 e5 e6 e7;rfl
 have hnow:now=0:=e8.symm
 have hhd:hd= -1:=e9.symm
 subst hcc hnow hhd
 have hq:qs= []:=by rw [f3]at k2;exact List.map_eq_nil_iff.1 k2
 subst hq
 rw [f4,f2]at k3
 rw [if_neg (by simp),if_pos (show auditV (chkZ cEx) ⟨cEx,0,svEx.la,List.map Pj.v [], -1⟩=0 from ex_audit)]at k3
 exact⟨gA,gJ,k3.1,k4⟩
set_option maxRecDepth 20000 in
theorem restore_ex {w:World} {B:Nat} (h:w.heap[B]?=some (.cells (Lib.byteCells (stB svEx)).toArray 5 (0,0))) (hT:Tab w):Calls Tryz.prog 26 #[.slice (some ⟨B,0,none⟩) 149 149] w fun e w'=>(∃x:Nat,e=.returned (.tuple #[.pointer (some ⟨x,0,none⟩),.int .i64 0]))∧Below w.heap.size w w':=by
 obtain⟨f1,f2,f3,f4⟩:=read_forth ex_ok
 have hg:=restore_none (w:=w) (r:=stB svEx) (c0:=149) (c:=cEx) (la:= [rootAc]) (bytes_at h) (by rw [ex_len];decide) nofun (by rw [ex_len];decide) (by rw [f4];simp) f1 f2 f3 ex_audit load_root ex_chk (fun u hu=>by simp [usL]at hu;subst hu;exact⟨Int.le_refl _,by decide⟩) (by decide) hT (by decide) (by decide)
 rw [ex_len]at hg
 exact hg
set_option maxRecDepth 20000 in
theorem save_ex {w:World} {x:Nat} {P:Pt} (h:Ck w x cEx 0 (-1) [rootAc] P) (hn:P.n=0):Calls Tryz.prog 25 #[.pointer (some ⟨x,0,none⟩)] w fun e w'=>(∃B,e=.returned (.slice (some ⟨B,0,none⟩) 149 149)∧w.heap.size≤B∧w'.heap[B]?=some (.cells (Lib.byteCells (stB svEx)).toArray 5 (0,0)))∧Below w.heap.size w w':=by
 have hs:=save_none h hn (show Wf ([rootAc].map plainAc)from wf_new) (by simp) (by decide) (fun a ha=>by rw [List.mem_singleton.1 ha];exact root_ok.us) (fun a ha=>by rw [List.mem_singleton.1 ha];decide) ex_audit (show (stB svEx).length≤2200000000 by rw [ex_len];decide)
 rw [show (stB ⟨cEx,0,[rootAc],[], -1⟩).length=149 from ex_len]at hs
 exact hs
end Go.Proofs.YtceoibfliggalaaGreatDoor
namespace Go.Proofs.YtceoibfliggalaaGreatDoor
open Go.RowKit Wd Tr Cg Ld Lg
theorem bys_below {W W':World} {x:Nat} {ao:Option Addr} {l:List UInt8} (h:BysAt W x ao l) (b:Below W.heap.size W W') (_:x≤W.heap.size):BysAt W' x ao l:=by
 obtain⟨g,o,p1,p2⟩:=h
 exact⟨g,o,p1,fun k u hu=>cellB b (p2 k u hu)⟩
set_option maxRecDepth 20000 in
set_option maxHeartbeats 1000000 in
theorem sshown_any {w:World} (hT:Tab w):Calls Tryz.prog 9 #[] w fun e w'=>e=.returned (.bool true)∧Below w.heap.size w w':=by
 have HT:Hid _:=hT
 clear hT
 go_enter Tryz.func9,Tryz.ntmps9
 go_upto_region 4 with(first
  | (go_at_call 24;refine(splain_any _).mono ?_;rintro e w1 ⟨rfl,hb1⟩;have HB1:Hid _:=hb1;clear hb1)
  | (go_at_call 23;refine(new_good ex_chk (Tab.below HB1.out HT.out)).mono ?_;rintro e w2 ⟨x,rfl,⟨P,hCk,hPn⟩,hb2⟩;have HCK:Hid _:=hCk;have HPN:Hid _:=hPn;have HB2:Hid (Below w.heap.size w w2):=HB1.out.trans (hb2.mono HB1.out.size);clear hCk hPn hb2))
 go_upto_region 5 with(go_at_call 25;refine(save_ex HCK.out HPN.out).mono ?_;rintro e w3 ⟨⟨B,rfl,hB,hG⟩,hb3⟩;have HG3:Hid _:=hG;have HB3:Hid (Below w.heap.size w w3):=HB2.out.trans (hb3.mono HB2.out.size);clear hG hb3)
 go_upto_region 6 with(go_at_call 11;refine(put_zero _).mono ?_;rintro e w4 ⟨rfl,hb4⟩;have HG4:Hid (w4.heap[B]?=some (.cells (Lib.byteCells (stB svEx)).toArray 5 (0,0))):=(hb4.block B (Array.getElem?_eq_some_iff.1 HG3.out).1).trans HG3.out;have HB4:Hid (Below w.heap.size w w4):=HB3.out.trans (hb4.mono HB3.out.size);clear hb4)
 go_upto_region 7 with(go_at_call 17;refine(get_nil _).mono ?_;rintro e w5 ⟨rfl,hb5⟩;have HG5:Hid (w5.heap[B]?=some (.cells (Lib.byteCells (stB svEx)).toArray 5 (0,0))):=(hb5.block B (Array.getElem?_eq_some_iff.1 HG4.out).1).trans HG4.out;have HB5:Hid (Below w.heap.size w w5):=HB4.out.trans (hb5.mono HB4.out.size);clear hb5)
 obtain⟨W5,hW5⟩:∃W5,w5.alloc (.cells #[.int .i64 0,.int .i64 0,.int .i64 0,.int .i64 0,.int .i64 0,.int .i64 0,.int .i64 0,.int .i64 0,.int .i64 0,.slice none 0 0,.slice none 0 0,.int .i64 0] 27)=W5:=⟨_,rfl⟩
 have b5:Below w5.heap.size w5 W5:=by rw [← hW5];exact(Below.refl _ _).alloc (Nat.le_refl _) _
 have HG6:Hid (W5.heap[B]?=some (.cells (Lib.byteCells (stB svEx)).toArray 5 (0,0))):=(b5.block B (Array.getElem?_eq_some_iff.1 HG5.out).1).trans HG5.out
 have HB6:Hid (Below w.heap.size w W5):=HB5.out.trans (b5.mono HB5.out.size)
 rw [hW5]
 clear hW5 b5
 go_upto_region 8 with(go_at_call 17;refine(get_ex HG6.out).mono ?_;rintro e w7 ⟨gA,gJ,rfl,hb7⟩;unfold stC cEx;have HG7:Hid (w7.heap[B]?=some (.cells (Lib.byteCells (stB svEx)).toArray 5 (0,0))):=(hb7.block B (Array.getElem?_eq_some_iff.1 HG6.out).1).trans HG6.out;have HB7:Hid (Below w.heap.size w w7):=HB6.out.trans (hb7.mono HB6.out.size);clear hb7)
 obtain⟨W7,hW7⟩:∃W7,w7.alloc (.cells #[.int .i64 4,.int .i64 8,.int .i64 10,.int .i64 1,.int .i64 0,.int .i64 0,.int .i64 100,.int .i64 100,.int .i64 0,.slice (some ⟨gA,0,none⟩) 1 1,.slice (some ⟨gJ,0,none⟩) 0 0,.int .i64 (-1)] 27)=W7:=⟨_,rfl⟩
 have b7:Below w7.heap.size w7 W7:=by rw [← hW7];exact(Below.refl _ _).alloc (Nat.le_refl _) _
 have HS8:Hid (W7.heap[w7.heap.size]?=some (.cells #[.int .i64 4,.int .i64 8,.int .i64 10,.int .i64 1,.int .i64 0,.int .i64 0,.int .i64 100,.int .i64 100,.int .i64 0,.slice (some ⟨gA,0,none⟩) 1 1,.slice (some ⟨gJ,0,none⟩) 0 0,.int .i64 (-1)] 27 (0,0))):=by show W7.heap[w7.heap.size]?=_;rw [← hW7];exact heap_alloc_new w7 _
 have HG8:Hid (W7.heap[B]?=some (.cells (Lib.byteCells (stB svEx)).toArray 5 (0,0))):=(b7.block B (Array.getElem?_eq_some_iff.1 HG7.out).1).trans HG7.out
 have HB8:Hid (Below w.heap.size w W7):=HB7.out.trans (b7.mono HB7.out.size)
 rw [hW7]
 clear hW7 b7
 go_upto_region 9 with(go_at_call 26;refine(restore_ex HG8.out (Tab.below HB8.out HT.out)).mono ?_;rintro e w9 ⟨⟨y,rfl⟩,hb9⟩;have HG9:Hid (w9.heap[B]?=some (.cells (Lib.byteCells (stB svEx)).toArray 5 (0,0))):=(hb9.block B (Array.getElem?_eq_some_iff.1 HG8.out).1).trans HG8.out;have HS9:Hid _:=(hb9.block w7.heap.size (Array.getElem?_eq_some_iff.1 HS8.out).1).trans HS8.out;have HB9:Hid (Below w.heap.size w w9):=HB8.out.trans (hb9.mono HB8.out.size);clear hb9)
 have HBY:Hid (BysAt w9.drew (B+1) (some ⟨B,0,none⟩) markB):=by
  refine⟨B,0,fun _=>⟨rfl,Nat.lt_succ_self _⟩,fun k u hu=>?_⟩
  rw [Nat.zero_add]
  refine cells_at (show w9.heap[B]?=_ from HG9.out) ?_
  have hk:(stB svEx)[k]?=some u:=by
   have hlt:=(List.getElem?_eq_some_iff.1 hu).1
   rw [← ex_mark,List.getElem?_take_of_lt (show k<9 from hlt)]at hu
   exact hu
  simp [Lib.byteCells,hk]
 have hB9:B<w9.heap.size:=(Array.getElem?_eq_some_iff.1 HG9.out).1
 have hs9:w7.heap.size<w9.heap.size:=(Array.getElem?_eq_some_iff.1 HS9.out).1
 refine wp_region_last (S:=(Below w9.drew.heap.size w9.drew)) (L:=99) (by kernel_rfl) ?_
 have HSW0:(Below w9.drew.heap.size w9.drew) (w9.drew):=Below.refl _ _
 have HF:Hid (∀xx:World,(Below w9.drew.heap.size w9.drew) xx→(convert 35 9 (.slice (some ⟨B,0,none⟩) 9 149)).run Tryz.prog xx=.ok (.string ⟨#[98,97,99,107,102,105,108,108,49]⟩) xx∧xx.cell? ⟨w7.heap.size,0,none⟩=some (.int .i64 4)∧xx.cell? ⟨w7.heap.size,1,none⟩=some (.int .i64 8)∧xx.cell? ⟨w7.heap.size,2,none⟩=some (.int .i64 10)∧xx.cell? ⟨w7.heap.size,3,none⟩=some (.int .i64 1)∧xx.cell? ⟨w7.heap.size,4,none⟩=some (.int .i64 0)∧xx.cell? ⟨w7.heap.size,5,none⟩=some (.int .i64 0)∧xx.cell? ⟨w7.heap.size,6,none⟩=some (.int .i64 100)∧xx.cell? ⟨w7.heap.size,7,none⟩=some (.int .i64 100)∧xx.cell? ⟨w7.heap.size,11,none⟩=some (.int .i64 (-1))∧True):=fun xx hSx=>⟨conv_any (c:=149) (bys_below HBY.out hSx hB9),cells_at ((Below.block hSx _ hs9).trans (show w9.drew.heap[w7.heap.size]?=_ from HS9.out)) rfl,cells_at ((Below.block hSx _ hs9).trans (show w9.drew.heap[w7.heap.size]?=_ from HS9.out)) rfl,cells_at ((Below.block hSx _ hs9).trans (show w9.drew.heap[w7.heap.size]?=_ from HS9.out)) rfl,cells_at ((Below.block hSx _ hs9).trans (show w9.drew.heap[w7.heap.size]?=_ from HS9.out)) rfl,cells_at ((Below.block hSx _ hs9).trans (show w9.drew.heap[w7.heap.size]?=_ from HS9.out)) rfl,cells_at ((Below.block hSx _ hs9).trans (show w9.drew.heap[w7.heap.size]?=_ from HS9.out)) rfl,cells_at ((Below.block hSx _ hs9).trans (show w9.drew.heap[w7.heap.size]?=_ from HS9.out)) rfl,cells_at ((Below.block hSx _ hs9).trans (show w9.drew.heap[w7.heap.size]?=_ from HS9.out)) rfl,cells_at ((Below.block hSx _ hs9).trans (show w9.drew.heap[w7.heap.size]?=_ from HS9.out)) rfl,trivial⟩
 refine tk 0 HSW0 (h:=?_)
 refine tk 1 HSW0 (h:=?_)
 refine tk 2 HSW0 (h:=?_)
 refine tk 3 HSW0 (h:=?_)
 refine tk 4 HSW0 (h:=?_)
 refine tk 5 HSW0 (h:=?_)
 refine tk 6 HSW0 (h:=?_)
 refine tk 7 HSW0 (h:=?_)
 refine tk 8 HSW0 (h:=?_)
 refine tk 9 HSW0 (h:=?_)
 refine tk 10 HSW0 (h:=?_)
 refine tk 11 HSW0 (h:=?_)
 refine tk 12 HSW0 (h:=?_)
 refine tk 13 HSW0 (h:=?_)
 refine tk 14 HSW0 (h:=?_)
 refine tk 15 HSW0 (h:=?_)
 refine tk 16 HSW0 (h:=?_)
 refine tk 17 HSW0 (h:=?_)
 refine tk 18 HSW0 (h:=?_)
 refine tk 19 HSW0 (h:=?_)
 refine tk 20 HSW0 (h:=?_)
 refine tk 21 HSW0 (h:=?_)
 refine tk 22 HSW0 (h:=?_)
 refine tk 23 HSW0 (h:=?_)
 refine last_one (i:=24) (by kernel_rfl) rfl ?_
 intro K hK
 go_simp
 go_at_call 24
 refine(splain_any _).mono ?_
 rintro e w10 ⟨rfl,hb10⟩
 have HSw10:(Below w9.drew.heap.size w9.drew) w10:=Below.trans HSW0 (hb10.mono (Below.size HSW0))
 go_simp
 refine hK.out _ _ (fun _=>HSw10) (fun _=>?_)
 clear hK K HSW0
 refine last_takeF (i:=25) (v:=.bool true) rfl (by kernel_rfl) (by kernel_rfl) (by kernel_rfl) (by kernel_rfl) rfl (fun _ _ _ h=>h) (by rfl) HSw10 ?hy25k25 ?rest25k25
 case hy25k25=>
  intro xx hSx
  clear hSx
  show _=_
  first | kernel_rfl | (go_simp;kernel_rfl)
 simp only [Act.put,List.setIfInBounds_toArray,List.set_cons_zero,List.set_cons_succ]
 have HF:Hid (∀xx:World,(Below w9.drew.heap.size w9.drew) xx→(convert 35 9 (.slice (some ⟨B,0,none⟩) 9 149)).run Tryz.prog xx=.ok (.string ⟨#[98,97,99,107,102,105,108,108,49]⟩) xx∧xx.cell? ⟨w7.heap.size,0,none⟩=some (.int .i64 4)∧xx.cell? ⟨w7.heap.size,1,none⟩=some (.int .i64 8)∧xx.cell? ⟨w7.heap.size,2,none⟩=some (.int .i64 10)∧xx.cell? ⟨w7.heap.size,3,none⟩=some (.int .i64 1)∧xx.cell? ⟨w7.heap.size,4,none⟩=some (.int .i64 0)∧xx.cell? ⟨w7.heap.size,5,none⟩=some (.int .i64 0)∧xx.cell? ⟨w7.heap.size,6,none⟩=some (.int .i64 100)∧xx.cell? ⟨w7.heap.size,7,none⟩=some (.int .i64 100)∧xx.cell? ⟨w7.heap.size,11,none⟩=some (.int .i64 (-1))∧True):=fun xx hSx=>⟨conv_any (c:=149) (bys_below HBY.out hSx hB9),cells_at ((Below.block hSx _ hs9).trans (show w9.drew.heap[w7.heap.size]?=_ from HS9.out)) rfl,cells_at ((Below.block hSx _ hs9).trans (show w9.drew.heap[w7.heap.size]?=_ from HS9.out)) rfl,cells_at ((Below.block hSx _ hs9).trans (show w9.drew.heap[w7.heap.size]?=_ from HS9.out)) rfl,cells_at ((Below.block hSx _ hs9).trans (show w9.drew.heap[w7.heap.size]?=_ from HS9.out)) rfl,cells_at ((Below.block hSx _ hs9).trans (show w9.drew.heap[w7.heap.size]?=_ from HS9.out)) rfl,cells_at ((Below.block hSx _ hs9).trans (show w9.drew.heap[w7.heap.size]?=_ from HS9.out)) rfl,cells_at ((Below.block hSx _ hs9).trans (show w9.drew.heap[w7.heap.size]?=_ from HS9.out)) rfl,cells_at ((Below.block hSx _ hs9).trans (show w9.drew.heap[w7.heap.size]?=_ from HS9.out)) rfl,cells_at ((Below.block hSx _ hs9).trans (show w9.drew.heap[w7.heap.size]?=_ from HS9.out)) rfl,trivial⟩
 refine tk 26 HSw10 (h:=?_)
 refine tk 27 HSw10 (h:=?_)
 refine tk 28 HSw10 (h:=?_)
 refine tk 29 HSw10 (h:=?_)
 refine tk 30 HSw10 (h:=?_)
 refine tk 31 HSw10 (h:=?_)
 refine tk 32 HSw10 (h:=?_)
 refine tk 33 HSw10 (h:=?_)
 refine tk 34 HSw10 (h:=?_)
 refine tk 35 HSw10 (h:=?_)
 refine tk 36 HSw10 (h:=?_)
 refine tk 37 HSw10 (h:=?_)
 refine tk 38 HSw10 (h:=?_)
 refine tk 39 HSw10 (h:=?_)
 refine last_takeF (i:=40) (v:=?v40k40) rfl (by kernel_rfl) (by kernel_rfl) (by kernel_rfl) (by kernel_rfl) rfl (fun _ _ _ h=>h) (by rfl) HSw10 ?hy40k40 ?rest40k40
 case hy40k40=>
  intro xx hSx
  have hcv:(convert 35 9 (.slice (some ⟨B,0,none⟩) 9 149)).run Tryz.prog xx=.ok (.string ⟨#[98,97,99,107,102,105,108,108,49]⟩) xx:=conv_any (c:=149) (bys_below HBY.out hSx hB9)
  have q0:xx.cell? ⟨w7.heap.size,0,none⟩=some (.int .i64 4):=cells_at ((Below.block hSx _ hs9).trans (show w9.drew.heap[w7.heap.size]?=_ from HS9.out)) rfl
  have q1:xx.cell? ⟨w7.heap.size,1,none⟩=some (.int .i64 8):=cells_at ((Below.block hSx _ hs9).trans (show w9.drew.heap[w7.heap.size]?=_ from HS9.out)) rfl
  have q2:xx.cell? ⟨w7.heap.size,2,none⟩=some (.int .i64 10):=cells_at ((Below.block hSx _ hs9).trans (show w9.drew.heap[w7.heap.size]?=_ from HS9.out)) rfl
  have q3:xx.cell? ⟨w7.heap.size,3,none⟩=some (.int .i64 1):=cells_at ((Below.block hSx _ hs9).trans (show w9.drew.heap[w7.heap.size]?=_ from HS9.out)) rfl
  have q4:xx.cell? ⟨w7.heap.size,4,none⟩=some (.int .i64 0):=cells_at ((Below.block hSx _ hs9).trans (show w9.drew.heap[w7.heap.size]?=_ from HS9.out)) rfl
  have q5:xx.cell? ⟨w7.heap.size,5,none⟩=some (.int .i64 0):=cells_at ((Below.block hSx _ hs9).trans (show w9.drew.heap[w7.heap.size]?=_ from HS9.out)) rfl
  have q6:xx.cell? ⟨w7.heap.size,6,none⟩=some (.int .i64 100):=cells_at ((Below.block hSx _ hs9).trans (show w9.drew.heap[w7.heap.size]?=_ from HS9.out)) rfl
  have q7:xx.cell? ⟨w7.heap.size,7,none⟩=some (.int .i64 100):=cells_at ((Below.block hSx _ hs9).trans (show w9.drew.heap[w7.heap.size]?=_ from HS9.out)) rfl
  have q11:xx.cell? ⟨w7.heap.size,11,none⟩=some (.int .i64 (-1)):=cells_at ((Below.block hSx _ hs9).trans (show w9.drew.heap[w7.heap.size]?=_ from HS9.out)) rfl
  clear hSx
  go_simp
  try (with_reducible rfl)
 simp only [Act.put,List.setIfInBounds_toArray,List.set_cons_zero]
 refine last_done (by kernel_rfl) ?_ _
 go_wp2
 go_ret
 exact⟨rfl,HB9.out.trans ((drew_below' w9).mono HB9.out.size |>.trans (Below.mono HSw10 HB9.out.size))⟩
end Go.Proofs.YtceoibfliggalaaGreatDoor
