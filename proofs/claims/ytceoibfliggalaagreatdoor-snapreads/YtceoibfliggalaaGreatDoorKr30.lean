/-
  TEXTS: SnJ, SnK, SnN, SnI.
-/
import Derived.Test.YtceoibfliggalaaGreatDoorKr21
import Derived.Test.YtceoibfliggalaaGreatDoorKr28
import Derived.Laws.BytesString
namespace Go.Proofs.YtceoibfliggalaaGreatDoor
open Go.RowKit Wd Tr Cg Ld Lg
theorem Tryz.infAc:(Tryz.prog.info? 52).map (·.size)=some 5:=by kernel_rfl
theorem load_ac {W:World} {b:Nat} {cs:Array Value} (h:W.heap[b]?=some (.cells cs 52 (0,0))) (hs:cs.size=5):(loadVar 52 ⟨b,0,none⟩).run Tryz.prog W=.ok (.agg cs) W:=by
 refine run_loadVar_row W b 52 52 cs (0,0) _ h Tryz.underlying52 rfl ?_
 rw [hs];exact Tryz.infAc
theorem ret_ac {f:Func} {r:Nat} {a:Act} {W:World} {b:Nat} {old cs:Array Value} {R:Ending→World→Prop} (hf:f.results= #[ResultVar.cell r 52]) (ht:a.tmps[r]?=some (.pointer (some ⟨b,0,none⟩))) (hd:a.defers= []) (hg:W.heap[b]?=some (.cells old 52 (0,0))) (hs:cs.size=5) (hR:R (.returned (.agg cs)) (W.setRow b cs)):bodyPost Tryz.prog f R .ret a (W.setRow b cs):=
 bodyPost_ret (v:=.agg cs) (res_cell hf ht (load_ac (setRow_heap W b old cs _ _ hg) hs)) hd hR
theorem four {α:Type} {l:List α} (h:l.length=4):∃a b c d,l= [a,b,c,d]:=by
 match l,h with
 | [a,b,c,d],_=>exact⟨a,b,c,d,rfl⟩
theorem fold_push:∀(l:List UInt8) (s:ByteArray),(l.map fun b:UInt8=>(b.toNat:Int)).foldl (fun r n=>r.push (UInt8.ofNat n.toNat)) s=⟨s.data++l.toArray⟩
 | [],s=>by simp
 | b::l,s=>by
  rw [List.map_cons,List.foldl_cons,fold_push l]
  simp [ByteArray.push]
theorem conv_any {W:World} {x c:Nat} {ao:Option Addr} {l:List UInt8} (h:BysAt W x ao l):(convert 35 9 (.slice ao l.length c)).run Tryz.prog W=.ok (.string ⟨l.toArray⟩) W:=by
 rw [run_convert_bytes_string W 35 9 5 ao l.length c Tryz.underlying35 Tryz.underlying5 Tryz.underlying9]
 obtain⟨g,o,h1,h2⟩:=h
 cases ao with
 | none=>
  have e:l= []:=by
   cases l with
   | nil=>rfl
   | cons b l=>have:=(h1 (by simp)).1;cases this
  subst e
  simp [Conv.bytesToString]
  rfl
 | some a=>
  have hl:(loadCells a l.length).run Tryz.prog W=.ok ((l.map fun b:UInt8=>(b.toNat:Int)).map (Value.int .u8)).toArray W:=by
   have:=run_loadCells_list (P:=Tryz.prog) W a ((l.map fun b:UInt8=>(b.toNat:Int)).map (Value.int .u8)) (fun j v hj=>by
    rw [List.getElem?_map,List.getElem?_map]at hj
    cases hb:l[j]? with
    | none=>rw [hb]at hj;cases hj
    | some b=>
     rw [hb]at hj
     cases hj
     have h0:0<l.length:=by have:=(List.getElem?_eq_some_iff.1 hb).1;omega
     have ea:=(h1 h0).1
     cases ea
     have hadd:(⟨g,o,none⟩:Addr).add j=⟨g,o+j,none⟩:=by unfold Addr.add;split<;>simp_all
     rw [hadd]
     exact h2 j b hb)
   simpa using this
  rw [run_bytesToString W a l.length c _ hl,fold_push]
  simp [ByteArray.empty,ByteArray.emptyWithCapacity]
  rfl
theorem cnt_pos (least:Nat) (s:RS):0≤(cntF least s).1:=by
 unfold cntF
 simp only
 split
 ·exact Int.le_refl _
 ·rename_i h
  by_cases hb:cntB least s=true
  ·unfold cntB at hb
   simp only [Bool.and_eq_true,decide_eq_true_eq]at hb
   exact hb.1
  ·exact absurd (if_neg hb) h
def acS (s:RS):List UInt8×RS:=bytF (cntF 1 s).1.toNat (cntF 1 s).2
def clB (n:Int):Bool:=decide (n=0)||decide (n=1)
def acF (s:RS):Ac×RS:=(⟨⟨(acS s).1.toArray⟩,(numsF 4 (acS s).2).1.getD 0 0,(numsF 4 (acS s).2).1.getD 1 0,decide ((numsF 4 (acS s).2).1.getD 2 0=1),(numsF 4 (acS s).2).1.getD 3 0 % 18446744073709551616⟩,needF (clB ((numsF 4 (acS s).2).1.getD 2 0)) (numsF 4 (acS s).2).2)
set_option maxRecDepth 20000 in
set_option maxHeartbeats 2000000 in
theorem raccount_any {w:World} {x:Nat} {s:RS} (h:Rd w x s):Calls Tryz.prog 68 #[.pointer (some ⟨x,0,none⟩)] w fun e w'=>e=.returned (.agg #[.string (acF s).1.nm,.int .i64 (acF s).1.pa,.int .i64 (acF s).1.sh,.bool (acF s).1.cl,.int .u64 (acF s).1.us])∧Rd w' x (acF s).2∧Chg (fun k=>k=x) w w':=by
 have hxl:=h.lt
 obtain⟨W,hW⟩:∃W,w.alloc (.cells #[.string ⟨#[]⟩,.int .i64 0,.int .i64 0,.bool false,.int .u64 0] 52)=W:=⟨_,rfl⟩
 have bW:Below w.heap.size w W:=by rw [← hW];exact(Below.refl _ _).alloc (Nat.le_refl _) _
 have hzW:W.heap.size=w.heap.size+1:=by rw [← hW];simp
 have hG:W.heap[w.heap.size]?=some (.cells #[.string ⟨#[]⟩,.int .i64 0,.int .i64 0,.bool false,.int .u64 0] 52 (0,0)):=by rw [← hW];exact heap_alloc_new w _
 have hct:=rcount_1 (h.other (W':=W) (fun k hk=>bW.block k (by omega)))
 have hcp:=cnt_pos 1 s
 unfold acF acS
 obtain⟨q,hq⟩:∃q:Nat,(cntF 1 s).1=q:=⟨(cntF 1 s).1.toNat,by omega⟩
 have hqt:(cntF 1 s).1.toNat=q:=by omega
 rw [hq]at hct
 rw [hqt]
 clear hcp hq hqt h
 generalize (cntF 1 s).2=s1 at *
 have HBY:Hid (∀(V:World),Rd V x s1→_):=fun V hV=>bytes_any hV q
 unfold BytP at HBY
 generalize bytF q s1=r at *
 obtain⟨l,s2⟩:=r
 simp only at HBY ⊢
 have HNS:Hid (∀(V:World),Rd V x s2→_):=fun V hV=>rnumbers_any hV 4 (by omega)
 obtain⟨n0,n1,n2,n3,hl⟩:=four (numsF_len 4 s2)
 rw [hl]at HNS
 simp only [hl,List.getD_cons_zero,List.getD_cons_succ]
 clear hl
 generalize (numsF 4 s2).2=s3 at *
 have HG:Hid _:=hG
 have HB:Hid _:=bW
 have HZ:Hid _:=hzW
 clear hG bW hzW
 go_enter Tryz.func68,Tryz.ntmps68
 go_upto_region 3 with(first
  | (go_at_call 67;refine hct.mono ?_;rintro e w1 ⟨rfl,hR1,hC1⟩;have hby:=HBY.out w1 hR1;have HC1:Hid _:=hC1;clear hC1 hR1)
  | (go_at_call 65;refine hby.mono ?_;rintro e w2 ⟨ao,c2,rfl,hB2,hR2,hC2⟩;have hcv:=conv_any (c:=c2) hB2;have hns:=HNS.out w2 hR2;have HC2:Hid _:=hC2;clear hC2 hR2 hB2)
  | (go_at_call 114;refine hns.mono ?_;rintro e w3 ⟨g,rfl,hgl,hrow,hR3,hC3⟩;have HROW:Hid _:=hrow;have HR3:Hid _:=hR3;have HC3:Hid _:=hC3;clear hrow hR3 hC3 hcv))
 have c2:w3.cell? ⟨g,2,none⟩=some (.int .i64 n2):=cells_at HROW.out rfl
 go_upto_region 4 with fail
 clear c2 hns hby hct
 have hzW:=HZ.out
 have HC:Hid (Chg (fun k=>k=x) W w3):=(HC1.out.trans HC2.out (fun _ _ e=>e)).trans HC3.out (fun _ _ e=>e)
 have hsz3:W.heap.size≤w3.heap.size:=HC.out.size
 have hsz2:W.heap.size≤w2.heap.size:=(HC1.out.trans HC2.out (fun _ _ e=>e)).size
 have HGL:Hid (w.heap.size<g):=show w.heap.size<g by omega
 go_cut [] (fun y=>Rd y x (needF (clB n2) s3)∧Chg (fun k=>k=x) w3 y)
 case first=>
  have hnd:=rneed_any (w:=w3) HR3.out (clB n2)
  by_cases h0:n2=0
  ·subst h0
   rw [show clB 0=true from rfl]at hnd
   go_wp2_with (go_at_call 64;refine hnd.mono ?_;rintro e w4 ⟨rfl,hR4,hC4⟩)
   go_meet
   exact⟨hR4,hC4⟩
  ·by_cases h1:n2=1
   ·subst h1
    rw [show clB 1=true from rfl]at hnd
    go_wp2_with (go_at_call 64;refine hnd.mono ?_;rintro e w4 ⟨rfl,hR4,hC4⟩)
    go_meet
    exact⟨hR4,hC4⟩
   ·have e9:clB n2=false:=by unfold clB;simp [h0,h1]
    have d0:(n2==0)=false:=by simpa using h0
    have d1:(n2==1)=false:=by simpa using h1
    have d2:decide (n2=0)=false:=decide_eq_false h0
    have d3:decide (n2=1)=false:=decide_eq_false h1
    have E9:Hid (clB n2=false):=e9
    rw [e9]at hnd
    clear e9
    go_wp2_with (go_at_call 64;refine hnd.mono ?_;rintro e w4 ⟨rfl,hR4,hC4⟩)
    go_meet
    rw [E9.out]
    exact⟨hR4,hC4⟩
 case rest=>
 obtain⟨hR4,hC4⟩:=hcut
 obtain⟨V,hV⟩:∃V:World,V=wc:=⟨_,rfl⟩
 rw [← hV]at hR4 hC4
 rw [← hV]
 clear hV
 have hsz4:w3.heap.size≤V.heap.size:=hC4.size
 have hgl3:g<w3.heap.size:=(Array.getElem?_eq_some_iff.1 HROW.out).1
 have hrow4:V.drew.heap[g]?=some (.cells #[.int .i64 n0,.int .i64 n1,.int .i64 n2,.int .i64 n3] 3 (0,0)):=(hC4.block g hgl3 (by have:=HGL.out;omega)).trans HROW.out
 have hG4:V.drew.heap[w.heap.size]?=some (.cells #[.string ⟨#[]⟩,.int .i64 0,.int .i64 0,.bool false,.int .u64 0] 52 (0,0)):=(hC4.block _ (by omega) (by omega)).trans ((HC.out.block _ (by omega) (by omega)).trans HG.out)
 have HROW4:Hid _:=hrow4
 have HG4:Hid _:=hG4
 have HR4:Hid _:=hR4
 have HC4:Hid _:=hC4
 clear hrow4 hG4 hR4 hC4 HROW
 obtain⟨cl,hcl⟩:∃cl,decide (n2=1)=cl:=⟨_,rfl⟩
 have hcl2:(n2==1)=cl:=hcl
 go_upto_region 5 with fail
 refine wp_region_last (S:=(Below V.drew.heap.size V.drew)) (L:=14) (by kernel_rfl) ?_
 have HSW0:(Below V.drew.heap.size V.drew) (V.drew):=Below.refl _ _
 have HF:Hid (∀xx:World,(Below V.drew.heap.size V.drew) xx→xx.cell? ⟨g,0,none⟩=some (.int .i64 n0)∧xx.cell? ⟨g,1,none⟩=some (.int .i64 n1)∧xx.cell? ⟨g,3,none⟩=some (.int .i64 n3)∧True):=fun xx hSx=>by have hrx:=(hSx.block g (Nat.lt_of_lt_of_le hgl3 hsz4)).trans HROW4.out;exact⟨cells_at hrx rfl,cells_at hrx rfl,cells_at hrx rfl,trivial⟩
 refine tc [0,14] 0 HSW0 (h:=?_)
 refine tc [1,14] 1 HSW0 (h:=?_)
 refine tc [2,14] 2 HSW0 (h:=?_)
 refine tc [3,14] 3 HSW0 (h:=?_)
 refine tc [4,14] 4 HSW0 (h:=?_)
 refine tc [5,14] 5 HSW0 (h:=?_)
 refine tc [6,14] 6 HSW0 (h:=?_)
 refine tc [7,14] 7 HSW0 (h:=?_)
 refine tc [8,14] 8 HSW0 (h:=?_)
 refine tc [9,14] 9 HSW0 (h:=?_)
 refine tc [10,14] 10 HSW0 (h:=?_)
 refine tc [11,14] 11 HSW0 (h:=?_)
 refine tc [12,14] 12 HSW0 (h:=?_)
 refine tc [13,14] 13 HSW0 (h:=?_)
 refine last_one (i:=14) (by kernel_rfl) rfl ?_
 intro K hK
 rw [if_pos (by rfl)]
 refine wp_store_row 52 (.tmp 2) (.tmp 37) rfl w.heap.size #[.string ⟨l.toArray⟩,.int .i64 n0,.int .i64 n1,.bool cl,.int .u64 (n3 % 18446744073709551616)] (by simp [Act.eval]) (by simp [Act.eval,IntKind.wrap,IntKind.bits,IntKind.signed]) 52 _ HG4.out Tryz.infAc rfl (by simp [Value.oneCell']) ?_
 refine hK.out _ _ (fun h=>absurd rfl h) (fun _=>?_)
 clear hK K
 refine last_done (by kernel_rfl) ?_ _
 go_wp2
 refine ret_ac Tryz.results68 rfl rfl HG4.out rfl ⟨by rw [hcl],Rd.other (s:=needF (clB n2) s3) HR4.out (fun k hk=>setRow_other _ _ _ _ (by omega)),?_⟩
 refine chg_row (K:=fun k=>k=x) ?_ (.inr (Nat.le_refl _)) _
 exact(((Chg.of_below HB.out _).trans HC.out (fun _ _ e=>e)).trans HC4.out (fun _ _ e=>e)).trans (Chg.of_below (drew_below' V) _) (fun _ _ e=>e)
end Go.Proofs.YtceoibfliggalaaGreatDoor
namespace Go.Proofs.YtceoibfliggalaaGreatDoor
open Go.RowKit Wd Tr Cg Ld Lg
theorem Tryz.infJb:(Tryz.prog.info? 55).map (·.size)=some 8:=by kernel_rfl
theorem load_jb {W:World} {b:Nat} {cs:Array Value} (h:W.heap[b]?=some (.cells cs 55 (0,0))) (hs:cs.size=8):(loadVar 55 ⟨b,0,none⟩).run Tryz.prog W=.ok (.agg cs) W:=by
 refine run_loadVar_row W b 55 55 cs (0,0) _ h Tryz.underlying55 rfl ?_
 rw [hs];exact Tryz.infJb
theorem ret_jb {f:Func} {r:Nat} {a:Act} {W:World} {b:Nat} {old cs:Array Value} {R:Ending→World→Prop} (hf:f.results= #[ResultVar.cell r 55]) (ht:a.tmps[r]?=some (.pointer (some ⟨b,0,none⟩))) (hd:a.defers= []) (hg:W.heap[b]?=some (.cells old 55 (0,0))) (hs:cs.size=8) (hR:R (.returned (.agg cs)) (W.setRow b cs)):bodyPost Tryz.prog f R .ret a (W.setRow b cs):=
 bodyPost_ret (v:=.agg cs) (res_cell hf ht (load_jb (setRow_heap W b old cs _ _ hg) hs)) hd hR
theorem seven {α:Type} {l:List α} (h:l.length=7):∃a b c d e f g,l= [a,b,c,d,e,f,g]:=by
 match l,h with
 | [a,b,c,d,e,f,g],_=>exact⟨a,b,c,d,e,f,g,rfl⟩
theorem cnt_le (least:Nat) (s:RS):(cntF least s).1=0∨((cntF least s).1≤((lenF (cntF least s).2 / least:Nat):Int)):=by
 unfold cntF
 simp only
 split
 ·exact .inl rfl
 ·rename_i h
  by_cases hb:cntB least s=true
  ·refine .inr ?_
   have e:needF (cntB least s) (numF s).2=(numF s).2:=if_pos hb
   rw [e]
   unfold cntB at hb
   simp only [Bool.and_eq_true,decide_eq_true_eq]at hb
   exact hb.2
  ·exact absurd (if_neg hb) h
def jbS (s:RS):Int×RS:=cntF 8 (numsF 7 s).2
def jbF (s:RS):Jv×RS:=(⟨(numsF 7 s).1.getD 0 0,(numsF 7 s).1.getD 1 0,(numsF 7 s).1.getD 2 0,(numsF 7 s).1.getD 3 0,(numsF 7 s).1.getD 4 0,(numsF 7 s).1.getD 5 0,(numsF 7 s).1.getD 6 0,(numsF (jbS s).1.toNat (jbS s).2).1⟩,(numsF (jbS s).1.toNat (jbS s).2).2)
theorem Rd.few {w:World} {x:Nat} {s:RS} (h:Rd w x s):lenF s≤140737488355328:=by
 obtain⟨_,n,_,_,_,hn,_,hl⟩:=h.blk
 omega
set_option maxRecDepth 20000 in
set_option maxHeartbeats 2000000 in
theorem rjob_any {w:World} {x:Nat} {s:RS} (h:Rd w x s):Calls Tryz.prog 69 #[.pointer (some ⟨x,0,none⟩)] w fun e w'=>∃g,e=.returned (.agg #[.int .i64 (jbF s).1.ac,.int .i64 (jbF s).1.nd,.int .i64 (jbF s).1.lm,.int .i64 (jbF s).1.sb,.int .i64 (jbF s).1.st,.int .i64 (jbF s).1.sr,.int .i64 (jbF s).1.en,.slice (some ⟨g,0,none⟩) (jbF s).1.set.length (jbF s).1.set.length])∧w.heap.size<g∧w'.heap[g]?=some (.cells ((jbF s).1.set.map (Value.int .i64)).toArray 3 (0,0))∧Rd w' x (jbF s).2∧Chg (fun k=>k=x) w w':=by
 have hxl:=h.lt
 obtain⟨W,hW⟩:∃W,w.alloc (.cells #[.int .i64 0,.int .i64 0,.int .i64 0,.int .i64 0,.int .i64 0,.int .i64 0,.int .i64 0,.slice none 0 0] 55)=W:=⟨_,rfl⟩
 have bW:Below w.heap.size w W:=by rw [← hW];exact(Below.refl _ _).alloc (Nat.le_refl _) _
 have hzW:W.heap.size=w.heap.size+1:=by rw [← hW];simp
 have hG:W.heap[w.heap.size]?=some (.cells #[.int .i64 0,.int .i64 0,.int .i64 0,.int .i64 0,.int .i64 0,.int .i64 0,.int .i64 0,.slice none 0 0] 55 (0,0)):=by rw [← hW];exact heap_alloc_new w _
 have hns:=rnumbers_any (h.other (W':=W) (fun k hk=>bW.block k (by omega))) 7 (by omega)
 have hcp:=cnt_pos 8 (numsF 7 s).2
 have hcl:=cnt_le 8 (numsF 7 s).2
 unfold jbF jbS
 obtain⟨n0,n1,n2,n3,n4,n5,n6,hl⟩:=seven (numsF_len 7 s)
 rw [hl]at hns
 simp only [hl,List.getD_cons_zero,List.getD_cons_succ]
 clear hl h
 generalize (numsF 7 s).2=s1 at *
 obtain⟨q,hq⟩:∃q:Nat,(cntF 8 s1).1=q:=⟨(cntF 8 s1).1.toNat,by omega⟩
 have hqt:(cntF 8 s1).1.toNat=q:=by omega
 rw [hqt,numsF_len]
 have HCT:Hid (∀(V:World),Rd V x s1→Calls Tryz.prog 67 #[.pointer (some ⟨x,0,none⟩),.int .i64 8] V fun e w'=>e=.returned (.int .i64 q)∧Rd w' x (cntF 8 s1).2∧Chg (fun k=>k=x) V w'):=fun V hV=>by have:=rcount_8 hV;rw [hq]at this;exact this
 rw [hq]at hcl
 generalize (cntF 8 s1).2=s2 at *
 have HNS:Hid (∀(V:World),Rd V x s2→_):=fun V hV=>rnumbers_any hV q (by have:=hV.few;omega)
 have HB:Hid _:=bW
 have HG:Hid _:=hG
 have HZ:Hid _:=hzW
 clear bW hG hzW hcp hq hqt
 generalize (numsF q s2).2=s3 at *
 generalize (numsF q s2).1=set at *
 go_enter Tryz.func69,Tryz.ntmps69
 go_upto_region 2 with(go_at_call 114;refine hns.mono ?_;rintro e w1 ⟨g,rfl,hgl,hrow,hR1,hC1⟩)
 have hzW:=HZ.out
 have hgl1:g<w1.heap.size:=(Array.getElem?_eq_some_iff.1 hrow).1
 have hsz1:W.heap.size≤w1.heap.size:=hC1.size
 have hG1:w1.heap[w.heap.size]?=some (.cells #[.int .i64 0,.int .i64 0,.int .i64 0,.int .i64 0,.int .i64 0,.int .i64 0,.int .i64 0,.slice none 0 0] 55 (0,0)):=(hC1.block _ (by omega) (by omega)).trans HG.out
 have hrow':w1.drew.heap[g]?=some (.cells #[.int .i64 n0,.int .i64 n1,.int .i64 n2,.int .i64 n3,.int .i64 n4,.int .i64 n5,.int .i64 n6] 3 (0,0)):=hrow
 have hR1':Rd w1.drew x s1:=Rd.other (s:=s1) hR1 (fun k hk=>rfl)
 have HROW:Hid _:=hrow'
 have HR1:Hid _:=hR1'
 have HC1:Hid (Chg (fun k=>k=x) W w1.drew):=hC1.trans (Chg.of_below (drew_below' w1) _) (fun _ _ e=>e)
 have HG1:Hid (w1.drew.heap[w.heap.size]?=_):=hG1
 clear hrow hrow' hR1 hR1' hC1 hG1 hns
 refine wp_region_last (S:=(fun y:World=>y.heap[g]?=some (.cells #[.int .i64 n0,.int .i64 n1,.int .i64 n2,.int .i64 n3,.int .i64 n4,.int .i64 n5,.int .i64 n6] 3 (0,0)))) (L:=26) (by kernel_rfl) ?_
 have HSW0:(fun y:World=>y.heap[g]?=some (.cells #[.int .i64 n0,.int .i64 n1,.int .i64 n2,.int .i64 n3,.int .i64 n4,.int .i64 n5,.int .i64 n6] 3 (0,0))) (w1.drew):=HROW.out
 have HF:Hid (∀xx:World,(fun y:World=>y.heap[g]?=some (.cells #[.int .i64 n0,.int .i64 n1,.int .i64 n2,.int .i64 n3,.int .i64 n4,.int .i64 n5,.int .i64 n6] 3 (0,0))) xx→xx.cell? ⟨g,0,none⟩=some (.int .i64 n0)∧xx.cell? ⟨g,1,none⟩=some (.int .i64 n1)∧xx.cell? ⟨g,2,none⟩=some (.int .i64 n2)∧xx.cell? ⟨g,3,none⟩=some (.int .i64 n3)∧xx.cell? ⟨g,4,none⟩=some (.int .i64 n4)∧xx.cell? ⟨g,5,none⟩=some (.int .i64 n5)∧xx.cell? ⟨g,6,none⟩=some (.int .i64 n6)∧True):=fun xx hSx=>⟨cells_at (show xx.heap[g]?=_ from hSx) rfl,cells_at (show xx.heap[g]?=_ from hSx) rfl,cells_at (show xx.heap[g]?=_ from hSx) rfl,cells_at (show xx.heap[g]?=_ from hSx) rfl,cells_at (show xx.heap[g]?=_ from hSx) rfl,cells_at (show xx.heap[g]?=_ from hSx) rfl,cells_at (show xx.heap[g]?=_ from hSx) rfl,trivial⟩
 refine tc [0,26] 0 HSW0 (h:=?_)
 refine tc [1,26] 1 HSW0 (h:=?_)
 refine tc [2,26] 2 HSW0 (h:=?_)
 refine tc [3,26] 3 HSW0 (h:=?_)
 refine tc [4,26] 4 HSW0 (h:=?_)
 refine tc [5,26] 5 HSW0 (h:=?_)
 refine tc [6,26] 6 HSW0 (h:=?_)
 refine tc [7,26] 7 HSW0 (h:=?_)
 refine tc [8,26] 8 HSW0 (h:=?_)
 refine tc [9,26] 9 HSW0 (h:=?_)
 refine tc [10,26] 10 HSW0 (h:=?_)
 refine tc [11,26] 11 HSW0 (h:=?_)
 refine tc [12,26] 12 HSW0 (h:=?_)
 refine tc [13,26] 13 HSW0 (h:=?_)
 refine tc [14,26] 14 HSW0 (h:=?_)
 refine tc [15,26] 15 HSW0 (h:=?_)
 refine tc [16,26] 16 HSW0 (h:=?_)
 refine tc [17,26] 17 HSW0 (h:=?_)
 refine tc [18,26] 18 HSW0 (h:=?_)
 refine tc [19,26] 19 HSW0 (h:=?_)
 refine tc [20,26] 20 HSW0 (h:=?_)
 refine tc [21,26] 21 HSW0 (h:=?_)
 refine tc [22,26] 22 HSW0 (h:=?_)
 refine last_one (i:=23) (by kernel_rfl) rfl ?_
 intro K hK
 go_simp
 go_at_call 67
 refine(HCT.out _ HR1.out).mono ?_
 rintro e w2 ⟨rfl,hR2,hC2⟩
 have HR2:Hid _:=hR2
 have HC2:Hid _:=hC2
 have hsz2:w1.heap.size≤w2.heap.size:=hC2.size
 have HSw2:(fun y:World=>y.heap[g]?=some (.cells #[.int .i64 n0,.int .i64 n1,.int .i64 n2,.int .i64 n3,.int .i64 n4,.int .i64 n5,.int .i64 n6] 3 (0,0))) w2:=(hC2.block g hgl1 (by omega)).trans HSW0
 go_simp
 refine hK.out _ _ (fun _=>HSw2) (fun _=>?_)
 clear hK K HSW0
 refine last_one (i:=24) (by kernel_rfl) rfl ?_
 intro K hK
 go_simp
 go_at_call 114
 refine(HNS.out _ HR2.out).mono ?_
 rintro e w3 ⟨g2,rfl,hgl2,hrow2,hR3,hC3⟩
 have HR3:Hid _:=hR3
 have HC3:Hid (Chg (fun k=>k=x) w1.drew w3):=HC2.out.trans hC3 (fun _ _ e=>e)
 have HROW2:Hid _:=hrow2
 have HG3:Hid (w3.heap[w.heap.size]?=some (.cells #[.int .i64 0,.int .i64 0,.int .i64 0,.int .i64 0,.int .i64 0,.int .i64 0,.int .i64 0,.slice none 0 0] 55 (0,0))):=(HC3.out.block _ (show w.heap.size<w1.heap.size by omega) (by omega)).trans HG1.out
 have HSw3:(fun y:World=>y.heap[g]?=some (.cells #[.int .i64 n0,.int .i64 n1,.int .i64 n2,.int .i64 n3,.int .i64 n4,.int .i64 n5,.int .i64 n6] 3 (0,0))) w3:=(hC3.block g (Nat.lt_of_lt_of_le hgl1 hsz2) (by omega)).trans HSw2
 go_simp
 refine hK.out _ _ (fun _=>HSw3) (fun _=>?_)
 clear hK K HSw2
 refine tc [25,26] 25 HSw3 (h:=?_)
 refine last_one (i:=26) (by kernel_rfl) rfl ?_
 intro K hK
 refine ite_yes (by rfl) ?_
 refine wp_store_row 55 (.tmp 2) (.tmp 31) rfl w.heap.size #[.int .i64 n0,.int .i64 n1,.int .i64 n2,.int .i64 n3,.int .i64 n4,.int .i64 n5,.int .i64 n6,.slice (some ⟨g2,0,none⟩) q q] (by simp [Act.eval]) (by simp [Act.eval]) 55 _ HG3.out Tryz.infJb rfl (by simp [Value.oneCell']) ?_
 refine hK.out _ _ (fun h=>absurd rfl h) (fun _=>?_)
 clear hK K
 refine last_done (by kernel_rfl) ?_ _
 go_wp2
 refine ret_jb Tryz.results69 rfl rfl HG3.out rfl ⟨g2,rfl,by omega,(setRow_other _ _ _ _ (by omega)).trans HROW2.out,Rd.other (s:=s3) HR3.out (fun k hk=>setRow_other _ _ _ _ (by omega)),?_⟩
 refine chg_row (K:=fun k=>k=x) ?_ (.inr (Nat.le_refl _)) _
 exact((Chg.of_below HB.out _).trans HC1.out (fun _ _ e=>e)).trans HC3.out (fun _ _ e=>e)
end Go.Proofs.YtceoibfliggalaaGreatDoor
namespace Go.Proofs.YtceoibfliggalaaGreatDoor
open Tr Cg Go.RowKit
theorem bytF_some {n:Nat} {s:RS} {r':List UInt8} (h:(bytF n s).2=some r'):s=some ((bytF n s).1++r')∧(bytF n s).1.length=n:=by
 cases s with
 | none=>cases h
 | some r=>
  by_cases hn:n≤r.length
  ·have e:bytF n (some r)=(r.take n,some (r.drop n)):=if_pos hn
   rw [e]at h ⊢
   cases h
   exact⟨by simp,by simp;omega⟩
  ·have e:bytF n (some r)=([],none):=if_neg hn
   rw [e]at h
   cases h
theorem ofBe_mod:∀(l:List UInt8) {a b:Int},a % 18446744073709551616=b % 18446744073709551616→(ofBe l a) % 18446744073709551616=(ofBe l b) % 18446744073709551616
 | [],_,_,h=>h
 | c::l,a,b,h=>ofBe_mod l (by omega)
theorem numGo_mod:∀(l:List UInt8) (a:Int),(numGo l a) % 18446744073709551616=(ofBe l a) % 18446744073709551616
 | [],_=>rfl
 | b::l,a=>by
  have ih:=numGo_mod l (wrap64 (a*256)+(b.toNat:Int))
  show numGo l (wrap64 (a*256)+(b.toNat:Int)) % _=ofBe l (a*256+(b.toNat:Int)) % _
  rw [ih]
  exact ofBe_mod l (by unfold wrap64;omega)
theorem eight_of {l:List UInt8} (h:l.length=8):∃a b c d e f g i,l= [a,b,c,d,e,f,g,i]:=by
 match l,h with
 | [a,b,c,d,e,f,g,i],_=>exact⟨a,b,c,d,e,f,g,i,rfl⟩
theorem byU_eq {n:Int} {i:Nat} {b:UInt8} (h:(n / 2^(8*i)) % 256=(b.toNat:Int)):byU n i=b:=by
 have:=byU_nat n i
 rw [h]at this
 exact UInt8.toNat.inj (by omega)
theorem be8_back {l:List UInt8} (h:l.length=8):be8 (numGo l 0)=l:=by
 rw [be8_mod (numGo_mod l 0)]
 obtain⟨a,b,c,d,e,f,g,i,rfl⟩:=eight_of h
 have ha:=a.toNat_lt;have hb:=b.toNat_lt;have hc:=c.toNat_lt;have hd:=d.toNat_lt
 have he:=e.toNat_lt;have hf:=f.toNat_lt;have hg:=g.toNat_lt;have hi:=i.toNat_lt
 simp only [ofBe]
 unfold be8
 congr 1
 ·exact byU_eq (by rw [show (2:Int)^(8*7)=72057594037927936 by decide];omega)
 congr 1
 ·exact byU_eq (by rw [show (2:Int)^(8*6)=281474976710656 by decide];omega)
 congr 1
 ·exact byU_eq (by rw [show (2:Int)^(8*5)=1099511627776 by decide];omega)
 congr 1
 ·exact byU_eq (by rw [show (2:Int)^(8*4)=4294967296 by decide];omega)
 congr 1
 ·exact byU_eq (by rw [show (2:Int)^(8*3)=16777216 by decide];omega)
 congr 1
 ·exact byU_eq (by rw [show (2:Int)^(8*2)=65536 by decide];omega)
 congr 1
 ·exact byU_eq (by rw [show (2:Int)^(8*1)=256 by decide];omega)
 congr 1
 exact byU_eq (by rw [show (2:Int)^(8*0)=1 by decide];omega)
theorem numF_some {s:RS} {r':List UInt8} (h:(numF s).2=some r'):s=some (be8 (numF s).1++r'):=by
 obtain⟨h1,h2⟩:=bytF_some (n:=8) h
 have e:be8 (numF s).1=(bytF 8 s).1:=be8_back h2
 rw [e]
 exact h1
theorem numsF_some:∀(k:Nat) {s:RS} {r':List UInt8},(numsF k s).2=some r'→s=some (numsB (numsF k s).1++r')
 | 0,_,_,h=>h
 | k+1,s,r',h=>by
  have h1:=numsF_some k (s:=(numF s).2) h
  have h2:=numF_some h1
  refine h2.trans ?_
  congr 1
theorem need_some {b:Bool} {s:RS} {r:List UInt8} (h:needF b s=some r):b=true∧s=some r:=by
 cases b with
 | true=>exact⟨rfl,h⟩
 | false=>cases h
theorem cntF_some {least:Nat} {s:RS} {r':List UInt8} (h:(cntF least s).2=some r'):s=some (be8 (cntF least s).1++r')∧0≤(cntF least s).1:=by
 obtain⟨h1,h2⟩:=need_some h
 have e:(cntF least s).1=(numF s).1:=if_neg (fun e=>by rw [show needF (cntB least s) (numF s).2=some r' from h]at e;cases e)
 rw [e]
 refine⟨numF_some h2,?_⟩
 unfold cntB at h1
 simp only [Bool.and_eq_true,decide_eq_true_eq]at h1
 exact h1.1
theorem acF_some {s:RS} {r':List UInt8} (h:(acF s).2=some r'):s=some (acB (acF s).1++r'):=by
 obtain⟨h1,h2⟩:=need_some h
 obtain⟨n0,n1,n2,n3,hl⟩:=four (numsF_len 4 (acS s).2)
 have h3:=numsF_some 4 h2
 obtain⟨h4,h5⟩:=bytF_some (n:=(cntF 1 s).1.toNat) (s:=(cntF 1 s).2) h3
 obtain⟨h6,h7⟩:=cntF_some h4
 rw [hl]at h1 h3 h6
 have e1:(acF s).1=⟨⟨(acS s).1.toArray⟩,n0,n1,decide (n2=1),n3 % 18446744073709551616⟩:=by unfold acF;rw [hl];rfl
 rw [e1]
 have h1':n2=0∨n2=1:=by
  have:clB n2=true:=h1
  unfold clB at this
  simpa using this
 have ec:be8 (if n2=1 then(1:Int)else 0)=be8 n2:=by
  rcases h1' with e | e<;>subst e<;>rfl
 have eu:be8 (n3 % 18446744073709551616)=be8 n3:=be8_mod (by omega)
 have en:((ByteArray.mk (acS s).1.toArray).size:Int)=(cntF 1 s).1:=by
  have:(acS s).1.length=(cntF 1 s).1.toNat:=h5
  show (((acS s).1.toArray).size:Int)=_
  rw [List.size_toArray,this]
  omega
 unfold acB
 simp only [en]
 refine h6.trans ?_
 congr 1
 show be8 (cntF 1 s).1++((acS s).1++(numsB [n0,n1,n2,n3]++r'))=_
 unfold numsB
 simp [ec,eu]
theorem jbF_some {s:RS} {r':List UInt8} (h:(jbF s).2=some r'):s=some (jbB (jbF s).1++r'):=by
 obtain⟨n0,n1,n2,n3,n4,n5,n6,hl⟩:=seven (numsF_len 7 s)
 have h1:=numsF_some _ (s:=(jbS s).2) h
 obtain⟨h2,h3⟩:=cntF_some (least:=8) (s:=(numsF 7 s).2) h1
 have h4:=numsF_some 7 h2
 rw [hl]at h4
 have e1:(jbF s).1=⟨n0,n1,n2,n3,n4,n5,n6,(numsF (jbS s).1.toNat (jbS s).2).1⟩:=by unfold jbF;rw [hl];rfl
 rw [e1]
 have en:((numsF (jbS s).1.toNat (jbS s).2).1.length:Int)=(jbS s).1:=by
  rw [numsF_len]
  have:0≤(jbS s).1:=h3
  omega
 unfold jbB
 simp only [en]
 refine h4.trans ?_
 congr 1
def acsF:Nat→RS→List Ac×RS
 | 0,s=>([],s)
 | k+1,s=>((acF s).1::(acsF k (acF s).2).1,(acsF k (acF s).2).2)
def jbsF:Nat→RS→List Jv×RS
 | 0,s=>([],s)
 | k+1,s=>((jbF s).1::(jbsF k (jbF s).2).1,(jbsF k (jbF s).2).2)
theorem acsF_len:∀(k:Nat) (s:RS),(acsF k s).1.length=k
 | 0,_=>rfl
 | k+1,s=>by simp [acsF,acsF_len k]
theorem jbsF_len:∀(k:Nat) (s:RS),(jbsF k s).1.length=k
 | 0,_=>rfl
 | k+1,s=>by simp [jbsF,jbsF_len k]
theorem acsF_snoc:∀(k:Nat) (s:RS),acsF (k+1) s=((acsF k s).1++ [(acF (acsF k s).2).1],(acF (acsF k s).2).2)
 | 0,_=>rfl
 | k+1,s=>by
  have ih:=acsF_snoc k (acF s).2
  show ((acF s).1::(acsF (k+1) (acF s).2).1,(acsF (k+1) (acF s).2).2)=_
  rw [ih]
  rfl
theorem jbsF_snoc:∀(k:Nat) (s:RS),jbsF (k+1) s=((jbsF k s).1++ [(jbF (jbsF k s).2).1],(jbF (jbsF k s).2).2)
 | 0,_=>rfl
 | k+1,s=>by
  have ih:=jbsF_snoc k (jbF s).2
  show ((jbF s).1::(jbsF (k+1) (jbF s).2).1,(jbsF (k+1) (jbF s).2).2)=_
  rw [ih]
  rfl
theorem acsF_some:∀(k:Nat) {s:RS} {r':List UInt8},(acsF k s).2=some r'→s=some ((acsF k s).1.flatMap acB++r')
 | 0,_,_,h=>h
 | k+1,s,r',h=>by
  have h1:=acsF_some k (s:=(acF s).2) h
  refine(acF_some h1).trans ?_
  congr 1
  show acB (acF s).1++((acsF k (acF s).2).1.flatMap acB++r')=((acF s).1::(acsF k (acF s).2).1).flatMap acB++r'
  rw [List.flatMap_cons,List.append_assoc]
theorem jbsF_some:∀(k:Nat) {s:RS} {r':List UInt8},(jbsF k s).2=some r'→s=some ((jbsF k s).1.flatMap jbB++r')
 | 0,_,_,h=>h
 | k+1,s,r',h=>by
  have h1:=jbsF_some k (s:=(jbF s).2) h
  refine(jbF_some h1).trans ?_
  congr 1
  show jbB (jbF s).1++((jbsF k (jbF s).2).1.flatMap jbB++r')=((jbF s).1::(jbsF k (jbF s).2).1).flatMap jbB++r'
  rw [List.flatMap_cons,List.append_assoc]
def rd1 (r:List UInt8):RS:=needF (decide ((bytF 9 (some r)).1=markB)) (bytF 9 (some r)).2
def rd2 (r:List UInt8):List Int×RS:=numsF 10 (rd1 r)
def rd3 (r:List UInt8):Int×RS:=cntF 40 (rd2 r).2
def rd4 (r:List UInt8):List Ac×RS:=acsF (rd3 r).1.toNat (rd3 r).2
def rd5 (r:List UInt8):Int×RS:=cntF 64 (rd4 r).2
def rd6 (r:List UInt8):List Jv×RS:=jbsF (rd5 r).1.toNat (rd5 r).2
def rd7 (r:List UInt8):RS:=needF (decide (lenF (rd6 r).2=0)) (rd6 r).2
theorem read_back {r:List UInt8} {c:Cf} {now hd:Int} (h:rd7 r≠none) (hh:(rd2 r).1= [c.nodes,c.queue,c.limit,c.age,c.fair,c.size,c.period,c.half,now,hd]):stB ⟨c,now,(rd4 r).1,(rd6 r).1,hd⟩=r:=by
 cases h7:rd7 r with
 | none=>exact absurd h7 h
 | some r7=>
  obtain⟨k7,h6⟩:=need_some h7
  have e7:r7= []:=by
   rw [h6]at k7
   simpa [lenF]using k7
  subst e7
  have h5:=jbsF_some _ h6
  obtain⟨h4,p4⟩:=cntF_some h5
  have h3:=acsF_some _ h4
  obtain⟨h2,p2⟩:=cntF_some h3
  have h1:=numsF_some _ h2
  obtain⟨k1,h0⟩:=need_some h1
  obtain⟨hr,_⟩:=bytF_some h0
  have em:(bytF 9 (some r)).1=markB:=by simpa using k1
  have hr':=Option.some.inj hr
  rw [em]at hr'
  have en:(((rd4 r).1.length:Nat):Int)=(rd3 r).1:=by
   show ((acsF (rd3 r).1.toNat (rd3 r).2).1.length:Int)=_
   rw [acsF_len]
   have:0≤(rd3 r).1:=p2
   omega
  have ej:(((rd6 r).1.length:Nat):Int)=(rd5 r).1:=by
   show ((jbsF (rd5 r).1.toNat (rd5 r).2).1.length:Int)=_
   rw [jbsF_len]
   have:0≤(rd5 r).1:=p4
   omega
  unfold stB hdsB
  rw [← hh]
  simp only [en,ej]
  refine Eq.trans ?_ hr'.symm
  show markB++(numsB (rd2 r).1++(be8 (rd3 r).1++((rd4 r).1.flatMap acB++(be8 (rd5 r).1++(rd6 r).1.flatMap jbB))))=markB++(numsB (rd2 r).1++(be8 (rd3 r).1++((rd4 r).1.flatMap acB++(be8 (rd5 r).1++((rd6 r).1.flatMap jbB++ [])))))
  rw [List.append_nil]
end Go.Proofs.YtceoibfliggalaaGreatDoor
namespace Go.Proofs.YtceoibfliggalaaGreatDoor
open Go.RowKit Wd Tr Cg Ld Lg
theorem Tryz.infCf:(Tryz.prog.info? 23).map (·.size)=some 8:=by kernel_rfl
theorem ten {α:Type} {l:List α} (h:l.length=10):∃a b c d e f g i j k,l= [a,b,c,d,e,f,g,i,j,k]:=by
 match l,h with
 | [a,b,c,d,e,f,g,i,j,k],_=>exact⟨a,b,c,d,e,f,g,i,j,k,rfl⟩
def hdV (s:RS) (c:Cf) (now hd:Int):Prop:=(numsF 10 s).1= [c.nodes,c.queue,c.limit,c.age,c.fair,c.size,c.period,c.half,now,hd]
set_option maxRecDepth 20000 in
set_option maxHeartbeats 2000000 in
theorem rhead_any {w:World} {x:Nat} {s:RS} (h:Rd w x s):Calls Tryz.prog 66 #[.pointer (some ⟨x,0,none⟩)] w fun e w'=>∃c now hd,e=.returned (.agg (stC c now (.slice none 0 0) (.slice none 0 0) hd))∧hdV s c now hd∧Rd w' x (numsF 10 s).2∧Chg (fun k=>k=x) w w':=by
 have hxl:=h.lt
 obtain⟨W,hW⟩:∃W,w.alloc (.cells #[.int .i64 0,.int .i64 0,.int .i64 0,.int .i64 0,.int .i64 0,.int .i64 0,.int .i64 0,.int .i64 0,.int .i64 0,.slice none 0 0,.slice none 0 0,.int .i64 0] 27)=W:=⟨_,rfl⟩
 have bW:Below w.heap.size w W:=by rw [← hW];exact(Below.refl _ _).alloc (Nat.le_refl _) _
 have hzW:W.heap.size=w.heap.size+1:=by rw [← hW];simp
 have hG:W.heap[w.heap.size]?=some (.cells #[.int .i64 0,.int .i64 0,.int .i64 0,.int .i64 0,.int .i64 0,.int .i64 0,.int .i64 0,.int .i64 0,.int .i64 0,.slice none 0 0,.slice none 0 0,.int .i64 0] 27 (0,0)):=by rw [← hW];exact heap_alloc_new w _
 have hns:=rnumbers_any (h.other (fun k hk=>bW.block k (by omega))) 10 (by omega)
 obtain⟨n0,n1,n2,n3,n4,n5,n6,n7,n8,n9,hl⟩:=ten (numsF_len 10 s)
 rw [hl]at hns
 have HHD:Hid (hdV s ⟨n0,n1,n2,n3,n4,n5,n6,n7⟩ n8 n9):=hl
 have HB:Hid _:=bW
 have HG:Hid _:=hG
 have HZ:Hid _:=hzW
 clear h bW hG hl hzW
 generalize (numsF 10 s).2=s2 at *
 go_enter Tryz.func66,Tryz.ntmps66
 go_upto_region 2 with(go_at_call 114;refine hns.mono ?_;rintro e w1 ⟨g,rfl,hgl,hrow,hR1,hC1⟩)
 have hzW:=HZ.out
 have hG1:w1.heap[w.heap.size]?=some (.cells #[.int .i64 0,.int .i64 0,.int .i64 0,.int .i64 0,.int .i64 0,.int .i64 0,.int .i64 0,.int .i64 0,.int .i64 0,.slice none 0 0,.slice none 0 0,.int .i64 0] 27 (0,0)):=(hC1.block _ (by omega) (by omega)).trans HG.out
 have hgl1:g<w1.heap.size:=(Array.getElem?_eq_some_iff.1 hrow).1
 have hsz1:W.heap.size≤w1.heap.size:=hC1.size
 have hrow':w1.heap[g]?=some (.cells #[.int .i64 n0,.int .i64 n1,.int .i64 n2,.int .i64 n3,.int .i64 n4,.int .i64 n5,.int .i64 n6,.int .i64 n7,.int .i64 n8,.int .i64 n9] 3 (0,0)):=hrow
 obtain⟨W2,hW2⟩:∃W2,(w1.alloc (.cells #[.int .i64 0,.int .i64 0,.int .i64 0,.int .i64 0,.int .i64 0,.int .i64 0,.int .i64 0,.int .i64 0] 23)).drew=W2:=⟨_,rfl⟩
 have b2:Below w1.heap.size w1 W2:=by rw [← hW2];exact((Below.refl w1.heap.size w1).alloc (Nat.le_refl _) _).trans ((drew_below' _).mono (by simp))
 have hc2:W2.heap[w1.heap.size]?=some (.cells #[.int .i64 0,.int .i64 0,.int .i64 0,.int .i64 0,.int .i64 0,.int .i64 0,.int .i64 0,.int .i64 0] 23 (0,0)):=by rw [← hW2];exact heap_alloc_new w1 _
 have b2':Below w1.drew.heap.size w1.drew W2:=⟨b2.os,b2.tape,b2.output,b2.size,b2.block⟩
 have HROW:Hid (w1.drew.heap[g]?=some (.cells #[.int .i64 n0,.int .i64 n1,.int .i64 n2,.int .i64 n3,.int .i64 n4,.int .i64 n5,.int .i64 n6,.int .i64 n7,.int .i64 n8,.int .i64 n9] 3 (0,0))):=hrow'
 have HR1:Hid _:=hR1
 have HC1:Hid _:=hC1
 have HG1:Hid _:=hG1
 have HB2:Hid _:=b2
 have HC2:Hid _:=hc2
 have HB2':Hid _:=b2'
 clear hrow hrow' hR1 hC1 hG1 b2 hc2 b2' hns
 go_cut [4] (fun v y=>v=.pointer (some ⟨w1.heap.size,0,none⟩)∧y.heap[w1.heap.size]?=some (.cells #[.int .i64 n0,.int .i64 n1,.int .i64 n2,.int .i64 n3,.int .i64 n4,.int .i64 n5,.int .i64 n6,.int .i64 n7] 23 (0,0))∧Below w1.heap.size w1 y)
 case first=>
  refine wp_region_last (S:=(Below w1.drew.heap.size w1.drew)) (L:=99) (by kernel_rfl) ?_
  have HSW0:(Below w1.drew.heap.size w1.drew) (w1.drew):=Below.refl _ _
  have HF:Hid (∀xx:World,(Below w1.drew.heap.size w1.drew) xx→xx.cell? ⟨g,0,none⟩=some (.int .i64 n0)∧xx.cell? ⟨g,1,none⟩=some (.int .i64 n1)∧xx.cell? ⟨g,2,none⟩=some (.int .i64 n2)∧xx.cell? ⟨g,3,none⟩=some (.int .i64 n3)∧xx.cell? ⟨g,4,none⟩=some (.int .i64 n4)∧xx.cell? ⟨g,5,none⟩=some (.int .i64 n5)∧xx.cell? ⟨g,6,none⟩=some (.int .i64 n6)∧xx.cell? ⟨g,7,none⟩=some (.int .i64 n7)∧True):=fun xx hSx=>by have hrx:=(hSx.block g hgl1).trans HROW.out;exact⟨cells_at hrx rfl,cells_at hrx rfl,cells_at hrx rfl,cells_at hrx rfl,cells_at hrx rfl,cells_at hrx rfl,cells_at hrx rfl,cells_at hrx rfl,trivial⟩
  refine tk 0 HSW0 (h:=?_)
  refine tk 1 HSW0 (h:=?_)
  refine tk 2 HSW0 (h:=?_)
  refine tk 3 HSW0 (h:=?_)
  refine tk 4 HSW0 (h:=?_)
  refine tk 5 HSW0 (h:=?_)
  refine tk 6 HSW0 (h:=?_)
  refine tk 7 HSW0 (h:=?_)
  refine tk 8 HSW0 (h:=?_)
  refine tk 9 HSW0 (h:=?_)
  refine tk 10 HSW0 (h:=?_)
  refine tk 11 HSW0 (h:=?_)
  refine tk 12 HSW0 (h:=?_)
  refine tk 13 HSW0 (h:=?_)
  refine tk 14 HSW0 (h:=?_)
  refine tk 15 HSW0 (h:=?_)
  refine tk 16 HSW0 (h:=?_)
  refine tk 17 HSW0 (h:=?_)
  refine tk 18 HSW0 (h:=?_)
  refine tk 19 HSW0 (h:=?_)
  refine tk 20 HSW0 (h:=?_)
  refine tk 21 HSW0 (h:=?_)
  refine tk 22 HSW0 (h:=?_)
  refine tk 23 HSW0 (h:=?_)
  refine tk 24 HSW0 (h:=?_)
  refine last_one (i:=25) (by kernel_rfl) rfl ?_
  intro K hK
  go_simp
  try rw [hW2]
  refine hK.out _ _ (fun _=>HB2'.out) (fun _=>?_)
  clear hK K
  refine last_one (i:=26) (by kernel_rfl) rfl ?_
  intro K hK
  rw [if_pos (by rfl)]
  refine wp_store_row 23 (.tmp 4) (.tmp 31) rfl w1.heap.size #[.int .i64 n0,.int .i64 n1,.int .i64 n2,.int .i64 n3,.int .i64 n4,.int .i64 n5,.int .i64 n6,.int .i64 n7] (by simp [Act.eval]) (by simp [Act.eval]) 23 _ HC2.out Tryz.infCf rfl (by simp [Value.oneCell']) ?_
  refine hK.out _ _ (fun _=>bl_row HB2'.out (Nat.le_refl _) _) (fun _=>?_)
  clear hK K
  refine last_done (by kernel_rfl) ?_ _
  go_wp2
  go_meet
  exact⟨rfl,setRow_heap _ _ _ _ _ _ HC2.out,bl_row HB2.out (Nat.le_refl _) _⟩
 case rest=>
 obtain⟨rfl,h3c,b3⟩:=hcut
 obtain⟨W3,hW3⟩:∃V:World,V=wc:=⟨_,rfl⟩
 rw [← hW3]at h3c b3
 rw [← hW3]
 clear hW3 hW2 HB2 HC2 HB2'
 have z3:w1.heap.size<W3.heap.size:=(Array.getElem?_eq_some_iff.1 h3c).1
 have h3g:W3.heap[g]?=_:=(b3.block g hgl1).trans (show w1.heap[g]?=_ from HROW.out)
 have h3s:W3.heap[w.heap.size]?=_:=(b3.block _ (by omega)).trans HG1.out
 have H3C:Hid _:=h3c
 have H3G:Hid _:=h3g
 have H3S:Hid (W3.drew.heap[w.heap.size]?=some (.cells #[.int .i64 0,.int .i64 0,.int .i64 0,.int .i64 0,.int .i64 0,.int .i64 0,.int .i64 0,.int .i64 0,.int .i64 0,.slice none 0 0,.slice none 0 0,.int .i64 0] 27 (0,0))):=h3s
 have HB3:Hid _:=b3
 clear h3c b3 h3g h3s
 go_upto_region 3 with fail
 refine wp_region_last (S:=(Below W3.drew.heap.size W3.drew)) (L:=8) (by kernel_rfl) ?_
 have HSW0:(Below W3.drew.heap.size W3.drew) (W3.drew):=Below.refl _ _
 have HF:Hid (∀xx:World,(Below W3.drew.heap.size W3.drew) xx→xx.cell? ⟨w1.heap.size,0,none⟩=some (.int .i64 n0)∧xx.cell? ⟨w1.heap.size,1,none⟩=some (.int .i64 n1)∧xx.cell? ⟨w1.heap.size,2,none⟩=some (.int .i64 n2)∧xx.cell? ⟨w1.heap.size,3,none⟩=some (.int .i64 n3)∧xx.cell? ⟨w1.heap.size,4,none⟩=some (.int .i64 n4)∧xx.cell? ⟨w1.heap.size,5,none⟩=some (.int .i64 n5)∧xx.cell? ⟨w1.heap.size,6,none⟩=some (.int .i64 n6)∧xx.cell? ⟨w1.heap.size,7,none⟩=some (.int .i64 n7)∧xx.cell? ⟨g,8,none⟩=some (.int .i64 n8)∧xx.cell? ⟨g,9,none⟩=some (.int .i64 n9)∧True):=fun xx hSx=>by have hcx:=(hSx.block w1.heap.size z3).trans (show W3.drew.heap[w1.heap.size]?=_ from H3C.out);have hrx:=(hSx.block g (Nat.lt_trans hgl1 z3)).trans (show W3.drew.heap[g]?=_ from H3G.out);exact⟨cells_at hcx rfl,cells_at hcx rfl,cells_at hcx rfl,cells_at hcx rfl,cells_at hcx rfl,cells_at hcx rfl,cells_at hcx rfl,cells_at hcx rfl,cells_at hrx rfl,cells_at hrx rfl,trivial⟩
 refine tc [0,8] 0 HSW0 (h:=?_)
 refine tc [1,8] 1 HSW0 (h:=?_)
 refine tc [2,8] 2 HSW0 (h:=?_)
 refine tc [3,8] 3 HSW0 (h:=?_)
 refine tc [4,8] 4 HSW0 (h:=?_)
 refine tc [5,8] 5 HSW0 (h:=?_)
 refine tc [6,8] 6 HSW0 (h:=?_)
 refine tc [7,8] 7 HSW0 (h:=?_)
 refine last_one (i:=8) (by kernel_rfl) rfl ?_
 intro K hK
 refine ite_yes (by kernel_rfl) ?_
 refine wp_store_row 27 (.tmp 2) (.tmp 39) rfl w.heap.size #[.int .i64 n0,.int .i64 n1,.int .i64 n2,.int .i64 n3,.int .i64 n4,.int .i64 n5,.int .i64 n6,.int .i64 n7,.int .i64 n8,.slice none 0 0,.slice none 0 0,.int .i64 n9] (by simp [Act.eval]) (by simp [Act.eval]) 27 _ H3S.out Tryz.infS rfl (by simp [Value.oneCell']) ?_
 refine hK.out _ _ (fun h=>absurd rfl h) (fun _=>?_)
 clear hK K
 refine last_done (by kernel_rfl) ?_ _
 go_wp2
 have hR3:=Rd.other (s:=s2) (W':=W3.setRow w.heap.size #[.int .i64 n0,.int .i64 n1,.int .i64 n2,.int .i64 n3,.int .i64 n4,.int .i64 n5,.int .i64 n6,.int .i64 n7,.int .i64 n8,.slice none 0 0,.slice none 0 0,.int .i64 n9]) HR1.out (fun k hk=>(setRow_other _ _ _ _ (by omega)).trans (HB3.out.block k (by omega)))
 refine ret_st Tryz.results66 rfl rfl H3S.out rfl ⟨⟨n0,n1,n2,n3,n4,n5,n6,n7⟩,n8,n9,rfl,HHD.out,Rd.other (s:=s2) hR3 (fun k hk=>rfl),?_⟩
 refine chg_row (K:=fun k=>k=x) ?_ (.inr (Nat.le_refl _)) _
 exact(((Chg.of_below HB.out _).trans HC1.out (fun _ _ e=>e)).trans (Chg.of_below HB3.out _) (fun _ _ e=>e)).trans (Chg.of_below (drew_below' W3) _) (fun _ _ e=>e)
end Go.Proofs.YtceoibfliggalaaGreatDoor
