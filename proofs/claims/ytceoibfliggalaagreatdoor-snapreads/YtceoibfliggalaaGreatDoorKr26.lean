/-
  TEXTS: LgA, Lgb, LgF, LgN.
-/
import Derived.Test.YtceoibfliggalaaGreatDoorKr24
import Derived.Test.YtceoibfliggalaaGreatDoorKr25
import Derived.WalkSpells
import Derived.WalkLawsBesides
import Derived.Deep.LoopGhost
import Derived.Deep.RegionHeld3
import Derived.Deep.QuietTactic
import Derived.Deep.CutBlock
import Derived.Deep.DeepCutAuto
import Derived.BigQuiet
import Derived.Maps.AppendAt
import Derived.Laws.Rows
import Derived.Laws.OwnMore
import Derived.Laws.AppendOwnNone
import Derived.Deep.DeepAppendWide
namespace Go.Proofs.YtceoibfliggalaaGreatDoor.Lr
set_option maxRecDepth 20000
open Go.RowKit Wd Ld Cg _root_.Go.Proofs.YtceoibfliggalaaGreatDoor.Lr.Lg
theorem cells_at {w:World} {b k:Nat} {cs:Array Value} {e:TypeId} {f:Nat×Nat} {v:Value} (h:w.heap[b]?=some (.cells cs e f)) (hv:cs[k]?=some v):w.cell? ⟨b,k,none⟩=some v:=by
 unfold World.cell?
 rw [h]
 simpa using hv
theorem frozen_at {w:World} {b k:Nat} {cs:Array Value} {e:TypeId} (h:w.heap[b]?=some (.cells cs e (0,0))):w.frozen? ⟨b,k,none⟩=false:=by
 unfold World.frozen?
 rw [h]
 simp
theorem cellB {w w':World} (b:Below w.heap.size w w') {a:Addr} {v:Value} (h:w.cell? a=some v):w'.cell? a=some v:=(b.cell (World.block_lt_of_cell? w _ h)).trans h
theorem new_cells (w:World) (l:List Value) (t:TypeId):∀j u,l[j]?=some u→(w.alloc (.cells l.toArray t)).cell? ((⟨w.heap.size,0,none⟩:Addr).add j)=some u:=by
 intro j u hu
 have ha:(⟨w.heap.size,0,none⟩:Addr).add j=⟨w.heap.size,j,none⟩:=by unfold Addr.add;split<;>simp_all
 rw [ha]
 exact cells_at (heap_alloc_new w _) (by simpa using hu)
theorem add_off (g o j:Nat):(⟨g,o,none⟩:Addr).add j=⟨g,o+j,none⟩:=by unfold Addr.add;split<;>simp_all
structure Chg (K:Nat→Prop) (w w':World):Prop where
 os:w'.os=w.os
 tape:w'.tape=w.tape
 output:w'.output=w.output
 size:w.heap.size≤w'.heap.size
 block:∀k,k<w.heap.size→¬K k→w'.heap[k]?=w.heap[k]?
theorem Chg.refl (K:Nat→Prop) (w:World):Chg K w w:=⟨rfl,rfl,rfl,Nat.le_refl _,fun _ _ _=>rfl⟩
theorem Chg.of_gr {w w':World} {r:Option Nat} (h:w.grownBy w' r) {K:Nat→Prop} (hK:∀k,r=some k→K k∨w.heap.size≤k):Chg K w w':=
 ⟨h.os,h.tape,h.output,h.size,fun k hk hn=>h.block k hk (fun e=>by rcases hK k e.symm with h | h;exact hn h;omega)⟩
theorem Chg.of_below {w w':World} (h:Below w.heap.size w w') (K:Nat→Prop):Chg K w w':=⟨h.os,h.tape,h.output,h.size,fun k hk _=>h.block k hk⟩
theorem Chg.trans {K K':Nat→Prop} {w w1 w2:World} (h:Chg K w w1) (k:Chg K' w1 w2) (hK:∀i,i<w.heap.size→K' i→K i):Chg K w w2:=
 ⟨k.os.trans h.os,k.tape.trans h.tape,k.output.trans h.output,Nat.le_trans h.size k.size,fun i hi hn=>(k.block i (Nat.lt_of_lt_of_le hi h.size) (fun e=>hn (hK i hi e))).trans (h.block i hi hn)⟩
theorem Chg.mono {K K':Nat→Prop} {w w1:World} (h:Chg K w w1) (hK:∀i,i<w.heap.size→K i→K' i):Chg K' w w1:=⟨h.os,h.tape,h.output,h.size,fun i hi hn=>h.block i hi (fun e=>hn (hK i hi e))⟩
theorem Chg.cell {K:Nat→Prop} {w w1:World} (h:Chg K w w1) {a:Addr} {v:Value} (hc:w.cell? a=some v) (hK:¬K a.block):w1.cell? a=some v:=
 (World.cell?_of_block (h.block a.block (World.block_lt_of_cell? w a hc) hK)).trans hc
theorem Chg.setCell {K:Nat→Prop} {w w1:World} (h:Chg K w w1) (p:Addr) (v:Value) (hK:K p.block∨w.heap.size≤p.block):Chg K w (w1.setCell p v):=
 ⟨h.os,h.tape,h.output,by rw [World.size_setCell];exact h.size,fun i hi hn=>by
  rw [Below.heap_setCell _ _ _ _ (fun e=>by subst e;rcases hK with k | k;exact hn k;omega)]
  exact h.block i hi hn⟩
theorem Chg.drew {K:Nat→Prop} {w w1:World} (h:Chg K w w1):Chg K w w1.drew:=⟨h.os,h.tape,h.output,h.size,h.block⟩
theorem Chg.below {K:Nat→Prop} {w0 w w1:World} {B:Nat} (h:Chg K w w1) (hb:Below B w0 w) (hB:B≤w.heap.size) (hK:∀i,K i→B≤i):Below B w0 w1:=
 hb.trans ⟨h.os,h.tape,h.output,h.size,fun k hk=>h.block k (by omega) (fun e=>by have:=hK k e;omega)⟩
theorem drew_below (w:World):Below w.heap.size w w.drew:=⟨rfl,rfl,rfl,Nat.le_refl _,fun _ _=>rfl⟩
theorem row_kept {w w1:World} {B e sz n:Nat} {v:Value} {vs:List Value} (h:w.ownsRow B e sz v n vs) (b:Below w.heap.size w w1):w1.ownsRow B e sz v n vs:=by
 refine⟨h.1,?_⟩
 rcases h.2 with h0 | ⟨g,cap,cur,rfl,hb,hg,r⟩
 ·exact .inl h0
 ·exact .inr ⟨g,cap,cur,rfl,hb,(b.block g (Array.getElem?_eq_some_iff.1 hg).1).trans hg,r⟩
theorem own_base {w:World} {B B' e sz n:Nat} {v:Value} {vs:List Value} (h:w.ownsRow B e sz v n vs) (hb:B'≤B):w.ownsRow B' e sz v n vs:=by
 refine⟨h.1,?_⟩
 rcases h.2 with h0 | ⟨g,cap,cur,rfl,hg,r⟩
 ·exact .inl h0
 ·exact .inr ⟨g,cap,cur,rfl,Nat.le_trans hb hg,r⟩
theorem row_same {W W':World} {B e sz n:Nat} {v:Value} {us:List Value} (h:W.ownsRow B e sz v n us) (hg:∀k,v.ownBlock=some k→W'.heap[k]?=W.heap[k]?):W'.ownsRow B e sz v n us:=by
 refine⟨h.1,?_⟩
 rcases h.2 with h0 | ⟨g,cap,cur,rfl,hb,hgg,r⟩
 ·exact .inl h0
 ·exact .inr ⟨g,cap,cur,rfl,hb,(hg g rfl).trans hgg,r⟩
theorem own_tag {W:World} {B e sz n:Nat} {v:Value} {vs:List Value} (h:W.ownsRow B e sz v n vs):∀j,v.ownBlock=some j→∃cs,W.heap[j]?=some (.cells cs e (0,0)):=by
 intro j hj
 rcases h.2 with⟨rfl,_⟩ | ⟨g,cap,cur,rfl,hb,hg,r⟩
 ·simp [Value.ownBlock]at hj
 ·simp [Value.ownBlock]at hj
  subst hj
  exact⟨cur,hg⟩
theorem sl_shape {w:World} {B e sz n:Nat} {v:Value} {vs:List Value} (h:w.ownsRow B e sz v n vs):∃ao c,v=.slice ao n c:=by
 rcases h.2 with⟨rfl,rfl⟩ | ⟨g,cap,cur,rfl,r⟩
 ·exact ⟨none,0,rfl⟩
 ·exact ⟨_,cap,rfl⟩
theorem made0 (w:World) (te sz:Nat):(w.alloc (.cells #[] te)).ownsRow w.heap.size te sz (.slice (some ⟨w.heap.size,0,none⟩) 0 0) 0 []:=⟨by simp,.inr ⟨w.heap.size,0,#[],rfl,Nat.le_refl _,heap_alloc_new w _,Nat.le_refl _,by decide,by simp,by simp⟩⟩
theorem wpList_append_any {P:Program} {w:World} {ops:Array Oper} {rest:List Oper} {o:Oper} {a:Act} {Q:Exit→Act→World→Prop} (hgd:o.guard=none) (s x:Operand) (t:TypeId)
  (ho:o.op=.call {callee:=.builtin .append,args:= #[s,x],argTypes:= #[t,t]})
  (base:Nat) (e:TypeId) (i:TypeInfo) (z:Value) (size bytes:Nat) (ht:P.underlying t=some (.slice e)) (hi:P.info? e=some i) (hz:i.zero=some z)
  (hsize:i.size=size) (hby:i.bytes=bytes) (hzs:z.cells.size=size) (hsz:0<size)
  (v:Value) (n:Nat) (xs:List Value) (hs:a.eval s=v) (hown:w.ownsRow base e size v n xs)
  (ao:Option Addr) (m c:Nat) (news:List Value) (hx:a.eval x=.slice ao m c) (hnil:ao=none→m=0∧c=0) (hl:news.length=m*size) (hnews:∀ad,ao=some ad→∀j u,news[j]?=some u→w.cell? (ad.add j)=some u) (h1:∀u∈news,u.oneCell'=true)
  (h63:n+m≤maxLen) (hbytes:((n+m)+(n+m) / 4+192)*bytes≤281474976710656) (hbase:base≤w.heap.size)
  (h:∀v' w',w'.ownsRow base e size v' (n+m) (xs++news)→w.grownBy w' v.ownBlock→wpList P ops Q rest (a.put o.dst v') w'):
  wpList P ops Q (o::rest) a w:=by
 cases ao with
 | none=>
  obtain⟨rfl,rfl⟩:=hnil rfl
  have hn0:news= []:=List.length_eq_zero_iff.1 (by rw [hl];omega)
  subst hn0
  exact wpList_append_own_none hgd s x t ho base e i size ht hi v n xs hs hown hx (h v w (by simpa using hown) ⟨rfl,rfl,rfl,Nat.le_refl _,fun _ _ _=>rfl⟩)
 | some ad=>exact wpList_append_own_wide _ hgd s x t ho base e i z size bytes ht hi hz hsize hby hzs hsz v n xs hs hown ad m c news hx hl (hnews ad rfl) h1 h63 hbytes hbase (fun v' w' g1 g2 _=>h v' w' g1 g2)
def IntsAt (W:World) (ao:Option Addr) (l:List Int):Prop:=∃g o,(0<l.length→ao=some ⟨g,o,none⟩)∧∀k n,l[k]?=some n→W.cell? ⟨g,o+k,none⟩=some (.int .i64 n)
theorem IntsAt.below {W W':World} {ao:Option Addr} {l:List Int} (h:IntsAt W ao l) (b:Below W.heap.size W W'):IntsAt W' ao l:=by
 obtain⟨g,o,h1,h2⟩:=h
 exact⟨g,o,h1,fun k n hn=>cellB b (h2 k n hn)⟩
def u64s (l:List Int):List Value:=l.map (Value.int .u64)
theorem u64s_len (l:List Int):(u64s l).length=l.length:=by simp [u64s]
theorem u64s_one (l:List Int):∀u∈u64s l,u.oneCell'=true:=by
 intro u hu
 obtain⟨x,_,rfl⟩:=List.mem_map.1 hu
 rfl
theorem u64s_at {l:List Int} {k:Nat} {u:Int} (h:l[k]?=some u):(u64s l)[k]?=some (.int .u64 u):=by simp [u64s,h]
def WdsAt (W:World) (ao:Option Addr) (l:List Int):Prop:=∃g o,(0<l.length→ao=some ⟨g,o,none⟩)∧∀k n,l[k]?=some n→W.cell? ⟨g,o+k,none⟩=some (.int .u64 n)
theorem WdsAt.below {W W':World} {ao:Option Addr} {l:List Int} (h:WdsAt W ao l) (b:Below W.heap.size W W'):WdsAt W' ao l:=by
 obtain⟨g,o,h1,h2⟩:=h
 exact⟨g,o,h1,fun k n hn=>cellB b (h2 k n hn)⟩
theorem WdsAt.cells {W:World} {ao:Option Addr} {l:List Int} (h:WdsAt W ao l):∀ad,ao=some ad→∀j u,(u64s l)[j]?=some u→W.cell? (ad.add j)=some u:=by
 obtain⟨g,o,h1,h2⟩:=h
 intro ad had j u hu
 have hj:j<l.length:=by have:=(List.getElem?_eq_some_iff.1 hu).1;rwa [u64s_len]at this
 rw [h1 (by omega)]at had
 cases had
 rw [add_off]
 obtain⟨x,hx⟩:∃x,l[j]?=some x:=⟨_,List.getElem?_eq_getElem hj⟩
 rw [u64s_at hx]at hu
 cases hu
 exact h2 j x hx
theorem WdsAt.of_row {W:World} {B:Nat} {v:Value} {l:List Int} (h:W.ownsRow B 50 1 v l.length (u64s l)):∃ao c,v=.slice ao l.length c∧WdsAt W ao l∧(ao=none→l.length=0∧c=0):=by
 rcases h.2 with⟨rfl,h0⟩ | ⟨g,cap,cur,rfl,hb,hg,hnc,hcm,hcs,htake⟩
 ·exact ⟨none,0,by rw [h0],⟨0,0,fun h=>by omega,fun k n hn=>by have:=(List.getElem?_eq_some_iff.1 hn).1;omega⟩,fun _=>⟨h0,rfl⟩⟩
 ·refine ⟨_,cap,rfl,⟨g,0,fun _=>rfl,fun k n hn=>?_⟩,fun h=>by cases h⟩
  have hk:=(List.getElem?_eq_some_iff.1 hn).1
  rw [Nat.zero_add,h.cellAt k (by omega),u64s_at hn]
structure Lg1 (T:TypeId) (hd:Value→Array Value) (B:Nat) (W:World) (d:Nat) (v:Value) (l:List Int):Prop where
 blk:W.heap[d]?=some (.cells (hd v) T (0,0))
 row:W.ownsRow B 50 1 v l.length (u64s l)
 lo:B≤d
 wds:Wds l
 few:l.length≤1000000
def LK (d:Nat) (v:Value) (j:Nat):Prop:=j=d∨v.ownBlock=some j
def pH (n f:Int) (v:Value):Array Value:= #[v,.int .i64 n,.int .u64 f]
abbrev Led (n f:Int):=Lg1 190 (pH n f)
section
variable {T:TypeId} {hd:Value→Array Value} {B:Nat} {W W':World} {d:Nat} {v:Value} {l:List Int} {K:Nat→Prop}
theorem Lg1.lk_lt (h:Lg1 T hd B W d v l):∀k,LK d v k→k<W.heap.size:=fun k hk=>by
 rcases hk with rfl | hk
 ·exact (Array.getElem?_eq_some_iff.1 h.blk).1
 ·exact (h.row.lt k hk).2
theorem Lg1.shape (h:Lg1 T hd B W d v l):∃ao c,v=.slice ao l.length c∧WdsAt W ao l∧(ao=none→l.length=0∧c=0):=WdsAt.of_row h.row
theorem Lg1.at (h:Lg1 T hd B W d v l) {k:Nat} {u:Int} (hk:l[k]?=some u):∃g c,v=.slice (some ⟨g,0,none⟩) l.length c∧W.cell? ⟨g,k,none⟩=some (.int .u64 u)∧W.frozen? ⟨g,k,none⟩=false:=by
 have hlt:=(List.getElem?_eq_some_iff.1 hk).1
 rcases h.row.2 with⟨_,h0⟩ | ⟨g,cap,cur,rfl,r⟩
 ·omega
 ·exact ⟨g,cap,rfl,by rw [h.row.cellAt k (by omega),u64s_at hk],h.row.frozenAt k⟩
end
theorem Led.c0 {n f:Int} {B:Nat} {W:World} {d:Nat} {v:Value} {l:List Int} (h:Led n f B W d v l):W.cell? ⟨d,0,none⟩=some v:=cells_at h.blk rfl
theorem Tryz.inf50:(Tryz.prog.info? 50).map (fun i=>(i.zero,i.size,i.bytes))=some (some (.int .u64 0),1,8):=by kernel_rfl
end Go.Proofs.YtceoibfliggalaaGreatDoor.Lr
namespace Go.Proofs.YtceoibfliggalaaGreatDoor.Lr
set_option maxRecDepth 20000
open Go.RowKit Wd Ld Cg _root_.Go.Proofs.YtceoibfliggalaaGreatDoor.Lr.Lg
theorem okA_of {l:List Int} {a:Int} (h0:0≤a) (h1:a<l.length):okA l a=true:=okA_iff.2 ⟨h0,h1⟩
theorem okA_lo {l:List Int} {a:Int} (h0:¬0≤a):okA l a=false:=by simp [okA];omega
theorem okA_hi {l:List Int} {a:Int} (h1:¬a<l.length):okA l a=false:=by simp [okA];omega
theorem own_of {l:List Int} {k:Nat} {u:Int} (h:l[k]?=some u):ownV l k=u:=by
 have hk:=(List.getElem?_eq_some_iff.1 h).1
 unfold ownV
 rw [if_pos (okA_of (by omega) (by omega))]
 simp [h]
theorem own_no {l:List Int} {a:Int} (h:okA l a=false):ownV l a=0:=by unfold ownV;simp [h]
theorem has_any {n f:Int} {B:Nat} {w:World} {d:Nat} {v:Value} {l:List Int} (h:Led n f B w d v l) (a:Int):
  Calls Tryz.prog 190 #[.pointer (some ⟨d,0,none⟩),.int .i64 a] w fun e w'=>e=.returned (.bool (okA l a))∧w'=w:=by
 obtain⟨ao,c,rfl,_,_⟩:=h.shape
 have c0:=h.c0
 clear h
 by_cases h0:0≤a
 ·by_cases h1:a<l.length
  ·rw [okA_of h0 h1]
   go_enter Tryz.func190,Tryz.ntmps190
   go_wp2
   go_ret
   exact⟨rfl,rfl⟩
  ·rw [okA_hi h1]
   go_enter Tryz.func190,Tryz.ntmps190
   go_wp2
   go_ret
   exact⟨rfl,rfl⟩
 ·rw [okA_lo h0]
  go_enter Tryz.func190,Tryz.ntmps190
  go_wp2
  go_ret
  exact⟨rfl,rfl⟩
theorem own_any {n f:Int} {B:Nat} {w:World} {d:Nat} {v:Value} {l:List Int} (h:Led n f B w d v l) (a:Int):
  Calls Tryz.prog 175 #[.pointer (some ⟨d,0,none⟩),.int .i64 a] w fun e w'=>e=.returned (.int .u64 (ownV l a))∧w'=w:=by
 have hh:=has_any h a
 cases hb:okA l a with
 | false=>
  rw [own_no hb]
  rw [hb]at hh
  go_enter Tryz.func175,Tryz.ntmps175
  go_wp2_with fail
  refine hh.mono ?_
  rintro e w1 ⟨rfl,rfl⟩
  go_wp2
  go_ret
  exact⟨rfl,rfl⟩
 | true=>
  rw [hb]at hh
  obtain⟨h0,h1⟩:=okA_iff.1 hb
  obtain⟨k,rfl⟩:∃k:Nat,a=k:=⟨a.toNat,by omega⟩
  obtain⟨u,hu⟩:∃u,l[k]?=some u:=⟨_,List.getElem?_eq_getElem (by omega)⟩
  rw [own_of hu]
  obtain⟨g,c,rfl,hc,_⟩:=h.at hu
  have c0:=h.c0
  clear h hu
  go_enter Tryz.func175,Tryz.ntmps175
  go_wp2_with fail
  refine hh.mono ?_
  rintro e w1 ⟨rfl,rfl⟩
  go_wp2
  go_ret
  exact⟨rfl,rfl⟩
set_option maxRecDepth 20000 in
theorem sclone_any {w:World} {ao:Option Addr} {l:List Int} {c:Nat} (h2:WdsAt w ao l) (hn:ao=none→l.length=0∧c=0) (hf:l.length≤1000000):
  Calls Tryz.prog 140 #[.slice ao l.length c] w fun e w'=>∃v,e=.returned v∧w'.ownsRow w.heap.size 50 1 v l.length (u64s l)∧Below w.heap.size w w':=by
 cases ao with
 | none=>
  obtain⟨h0,rfl⟩:=hn rfl
  have hl:l= []:=List.eq_nil_of_length_eq_zero h0
  subst hl
  simp only [List.length_nil]
  have hq:=fun w=>Lib.run_eql_slice_nil (P:=Tryz.prog) w 126 50 none 0 0 0 0 Tryz.underlying126
  go_enter Tryz.func140,Tryz.ntmps140
  go_wp2
  go_ret
  exact⟨_,rfl,World.ownsRow_nil _ _ _ _,Below.refl _ _⟩
 | some ad=>
  obtain⟨i0,hi0,hz0,hz1,hz2⟩:=info_parts Tryz.inf50
  have b0:Below w.heap.size w (w.alloc (.cells #[] 50)):=(Below.refl _ w).alloc (Nat.le_refl _) _
  have hcell:=(h2.below b0).cells
  have hfl:=u64s_len l
  obtain⟨q,hq⟩:∃q,l.length=q:=⟨_,rfl⟩
  rw [hq]at hf hfl ⊢
  have hq:=fun w=>Lib.run_eql_slice_nil (P:=Tryz.prog) w 126 50 (some ad) q c 0 0 Tryz.underlying126
  have HFL:Hid ((u64s l).length=q*1):=show (u64s l).length=q*1 by omega
  have HC:Hid _:=hcell
  have HM:Hid _:=made0 w 50 1
  clear h2 hfl hcell hn
  go_enter Tryz.func140,Tryz.ntmps140
  go_wp2_with (at_builtin;refine wpList_append_any rfl (.tmp 5) (.tmp 6) 126 rfl w.heap.size 50 i0 _ 1 8 Tryz.underlying126 hi0 hz0 hz1 hz2 rfl (by decide) (.slice (some ⟨w.heap.size,0,none⟩) 0 0) 0 [] rfl HM.out (some ad) q c (u64s l) rfl (fun h=>by cases h) HFL.out HC.out (u64s_one l) ?_ ?_ ?_ ?_;exact(Nat.le_trans (m:=35184372088832) (by omega) (by decide));omega;(simp);intro v' w5 hown hgr)
  go_ret
  refine⟨_,rfl,by simpa using hown,?_⟩
  exact b0.grown hgr (by simp) (fun k e=>by simp [Value.ownBlock]at e;omega)
end Go.Proofs.YtceoibfliggalaaGreatDoor.Lr
namespace Go.Proofs.YtceoibfliggalaaGreatDoor.Lr
set_option maxRecDepth 20000
open Go.RowKit Wd Ld Cg _root_.Go.Proofs.YtceoibfliggalaaGreatDoor.Lr.Lg
theorem Lg1.fresh {T:TypeId} {hd:Value→Array Value} {w w1:World} {v:Value} {l:List Int} (hw:Wds l) (hf:l.length≤1000000) (hrow:w1.ownsRow w.heap.size 50 1 v l.length (u64s l)) (b:Below w.heap.size w w1):
  Lg1 T hd w.heap.size (w1.alloc (.cells (hd v) T)) w1.heap.size v l∧Below w.heap.size w (w1.alloc (.cells (hd v) T)):=
 ⟨⟨heap_alloc_new _ _,row_kept hrow ((Below.refl _ w1).alloc (Nat.le_refl _) _),b.size,hw,hf⟩,b.alloc b.size _⟩
end Go.Proofs.YtceoibfliggalaaGreatDoor.Lr
namespace Go.Proofs.YtceoibfliggalaaGreatDoor.Lr
set_option maxRecDepth 20000
open Go.RowKit Wd Ld Cg _root_.Go.Proofs.YtceoibfliggalaaGreatDoor.Lr.Lg
def facZ (c:Cf):Int:=(halfN (expV c.period c.half):Nat)
theorem chk_rng {c:Cf} (h:chkZ c=0):Rng c:=by
 by_cases r:Rng c
 ·exact r
 ·unfold chkZ at h
  rw [if_pos r]at h
  omega
theorem not_bad {c:Cf} (r:Rng c):¬BadF c.period c.half:=by
 obtain⟨_,_,_,_,_,_,_,_,_,_,_,_,_,_,_,_⟩:=r
 unfold BadF
 omega
set_option maxRecDepth 20000 in
set_option maxHeartbeats 1000000 in
theorem new_led {c:Cf} (h:chkZ c=0) {ao:Option Addr} {l:List Int} {cp:Nat} {w:World} (hT:Tab w) (hA:WdsAt w ao l) (hw:Wds l) (hn:ao=none→l.length=0∧cp=0) (hm:l.length≤64):
  Calls Tryz.prog 91 #[cfV c,.slice ao l.length cp] w fun e w'=>∃d v,e=.returned (.tuple #[.pointer (some ⟨d,0,none⟩),.int .i64 0])∧Led c.nodes (facZ c) w.heap.size w' d v l∧Below w.heap.size w w':=by
 have c1:=pcheck_any c
 rw [h]at c1
 have r:=chk_rng h
 have hf:=fun w hT=>factor_good (not_bad r) w hT
 have hfz:((halfN (expV c.period c.half):Nat):Int)=facZ c:=rfl
 rw [hfz]at hf
 have HN:Hid (ao=none→l.length=0∧cp=0):=hn
 have HW:Hid (Wds l):=hw
 have hm':¬(64:Int)<l.length:=by omega
 generalize facZ c=F at *
 unfold cfV at *
 have hS:=St.new w c
 clear hn hw
 go_enter Tryz.func91,Tryz.ntmps91
 go_wp2_with fail
 refine(c1 _).mono ?_
 rintro e w1 ⟨rfl,b1⟩
 replace hS:=keepW hS b1
 clear b1
 obtain⟨s0,s1,s2,s3,s4,s5,s6,s7,_,_⟩:=id hS
 go_wp2_with fail
 refine(hf _ (Tab.below hS.bel hT)).mono ?_
 rintro e w2 ⟨rfl,b2⟩
 replace hS:=keepW hS b2
 clear b2 s0 s1 s2 s3 s4 s5 s6 s7
 go_wp2_with fail
 have hS2:=keepW hS (drew_below w2)
 have hc:=sclone_any (c:=cp) (hA.below hS2.bel) HN.out (by omega)
 have S0:Hid _:=hS2
 clear hS hS2
 go_region_held3 (fun w'=>w'.cell? ⟨w.heap.size,0,none⟩=some (.int .i64 c.nodes)) (first | exact(id S0.out).1 | exact(id S1).1 | exact allocC _ (id S1).1)
  (first
  | (go_at_call 140;refine hc.mono ?_;rintro e w3 ⟨v3,rfl,r3,b3⟩;obtain⟨ao3,c3,e3⟩:=sl_shape r3;subst e3;have S1:=keepW S0.out b3))
 all_goals
  go_wp2
  go_ret2
  have hfr:=Lg1.fresh (w:=w) (T:=190) (hd:=pH c.nodes F) HW.out (by omega) (own_base r3 (St.bel S0.out).size) (St.bel S1)
  exact⟨_,_,rfl,hfr.1,hfr.2⟩
end Go.Proofs.YtceoibfliggalaaGreatDoor.Lr
