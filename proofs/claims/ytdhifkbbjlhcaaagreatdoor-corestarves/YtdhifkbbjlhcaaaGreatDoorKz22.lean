import Derived.Shelf.SortG.AssemblyIn
import Derived.Sort.EveryDepth
import Derived.Sort.OwnSortedInts
import Derived.Test.YtdhifkbbjlhcaaaGreatDoorKz12
import Derived.Shelf.SortG.SortNone
set_option maxRecDepth 20000
set_option maxHeartbeats 1000000
set_option linter.defProp false
namespace Go.Proofs.YtdhifkbbjlhcaaaGreatDoor
open Go.Proofs.Tryz
variable {P:Nat->Bool} {w:ay} {zs:List Nat}
section
open Go.RowKit Go.Shelf Tr
def Es:Ren where
 f:=fun
  | 53=>161
  | 59=>252
  | 63=>201
  | 64=>202
  | 68=>289
  | 70=>246
  | 71=>247
  | 72=>248
  | 73=>249
  | 74=>250
  | 75=>251
  | 76=>253
  | 77=>254
  | 78=>255
  | 79=>256
  | 88=>284
  | 89=>285
  | 90=>286
  | 91=>287
  | 92=>288
  | 96=>300
  | n=>n
 t:=fun
  | 0=>0
  | 3=>3
  | 4=>4
  | 5=>5
  | 9=>9
  | 22=>36
  | 23=>3
  | 44=>158
  | 51=>206
  | 60=>312
  | 61=>313
  | 67=>319
  | 69=>40
  | 75=>341
  | 79=>154
  | 83=>358
  | 84=>297
  | n=>n
 g:=fun n=>n
def qz:SlLaysN.n53 prog Es where
 mixed:=aF
 f53:=⟨f161.name,by kernel_rfl,func161.trans (aP some aF)⟩
 f59:=⟨f252.name,by kernel_rfl,func252.trans (aP some aF)⟩
 f63:=⟨f201.name,by kernel_rfl,func201.trans (aP some aF)⟩
 f64:=func202.trans (aP some aF)
 f68:=⟨f289.name,by kernel_rfl,func289.trans (aP some aF)⟩
 f70:=⟨f246.name,by kernel_rfl,func246.trans (aP some aF)⟩
 f71:=⟨f247.name,by kernel_rfl,func247.trans (aP some aF)⟩
 f72:=⟨f248.name,by kernel_rfl,func248.trans (aP some aF)⟩
 f73:=⟨f249.name,by kernel_rfl,func249.trans (aP some aF)⟩
 f74:=⟨f250.name,by kernel_rfl,func250.trans (aP some aF)⟩
 f75:=⟨f251.name,by kernel_rfl,func251.trans (aP some aF)⟩
 f76:=⟨f253.name,by kernel_rfl,func253.trans (aP some aF)⟩
 f77:=⟨f254.name,by kernel_rfl,func254.trans (aP some aF)⟩
 f78:=func255.trans (aP some aF)
 f79:=func256.trans (aP some aF)
 f88:=⟨f284.name,by kernel_rfl,func284.trans (aP some aF)⟩
 f89:=func285.trans (aP some aF)
 f90:=func286.trans (aP some aF)
 f91:=⟨f287.name,by kernel_rfl,func287.trans (aP some aF)⟩
 f92:=⟨f288.name,by kernel_rfl,func288.trans (aP some aF)⟩
 f96:=⟨f300.name,by kernel_rfl,func300.trans (aP some aF)⟩
 t0:=underlying0
 a0:=isAgg0
 z0:=sizeOf0
 v0:=zeroValue0
 t3:=underlying3
 a3:=isAgg3
 z3:=sizeOf3
 v3:=zeroValue3
 t4:=underlying4
 a4:=isAgg4
 z4:=sizeOf4
 v4:=zeroValue4
 t5:=underlying5
 a5:=isAgg5
 z5:=sizeOf5
 v5:=zeroValue5
 t9:=underlying9
 a9:=isAgg9
 z9:=sizeOf9
 v9:=zeroValue9
 t22:=underlying36
 a22:=isAgg36
 z22:=sizeOf36
 v22:=zeroValue36
 t23:=underlying3
 a23:=isAgg3
 z23:=sizeOf3
 v23:=zeroValue3
 t44:=underlying158
 a44:=isAgg158
 z44:=sizeOf158
 v44:=zeroValue158
 t51:=underlying206
 a51:=isAgg206
 z51:=sizeOf206
 v51:=zeroValue206
 t60:=underlying312
 a60:=isAgg312
 z60:=sizeOf312
 v60:=zeroValue312
 t61:=underlying313
 a61:=isAgg313
 z61:=sizeOf313
 v61:=zeroValue313
 t67:=underlying319
 a67:=isAgg319
 z67:=sizeOf319
 v67:=zeroValue319
 t69:=underlying40
 a69:=isAgg40
 z69:=sizeOf40
 v69:=zeroValue40
 t75:=underlying341
 a75:=isAgg341
 z75:=sizeOf341
 v75:=zeroValue341
 t79:=underlying154
 a79:=isAgg154
 z79:=sizeOf154
 v79:=zeroValue154
 t83:=underlying358
 a83:=isAgg358
 z83:=sizeOf358
 v83:=zeroValue358
 t84:=underlying297
 a84:=isAgg297
 z84:=sizeOf297
 v84:=zeroValue297
def K5 (blk cap:Nat) (zs:List Int) (w:ay) (hH:Sort.Holds (Value.int .i64) w blk 0 zs.toArray) (hblk:blk<w.heap.size) (hsz:zs.length<4611686018427387904):
  Calls prog 161 #[.slice (some ⟨blk,0,none⟩) zs.length cap] w fun e w'=>
   e=.returned (.tuple #[])/\∃n os,w'=Sort.grow (Sort.putRow (Value.int .i64) (Sort.ahead w n) blk 0 (zs.mergeSort fun x y=>decide (x<=y)).toArray) os:=
 calls_of_every_depth fun D=>AnySG.slices_Sort_int_in qz D blk 0 cap zs w hH hblk hsz
def aar (xs:List Nat):ints xs=(xs.map fun(k:Nat)=>(k:Int)).map (Value.int .i64):=by
 unfold ints;simp_all
def aco {xs S:List Nat} (hS:S.Perm xs) (hs:S.Pairwise (· <= ·)):((xs.map fun(k:Nat)=>(k:Int)).mergeSort fun x y=>decide (x<=y))=S.map fun(k:Nat)=>(k:Int):=by
 have h1:((xs.map fun(k:Nat)=>(k:Int)).mergeSort fun x y=>decide (x<=y)).Pairwise (fun a b=>a<=b):=by grind[List.pairwise_mergeSort]
 have h2:(S.map fun(k:Nat)=>(k:Int)).Pairwise (fun a b=>a<=b):=by grind
 grind[PL,List.mergeSort_perm]
def ahg {B:Nat} {v:Value} {xs S:List Nat} (h:w.ownsRow B 3 1 v xs.length (ints xs)) (hne:xs≠ []) (hl:xs.length<=64) (hS:S.Perm xs) (hs:S.Pairwise (· <= ·)):
  Calls prog 161 #[v] w fun e w'=>e=.returned (.tuple #[])/\w'.ownsRow B 3 1 v S.length (ints S)/\w.grownBy w' v.ownBlock:=by
 have hpos:=List.length_pos_iff.2 hne;rcases h.2 with⟨_,h0⟩ | ⟨g,cap,cur,rfl,hb,hg,h1,h2,h3,h4⟩
 ·omega
 obtain⟨zs,hz⟩:∃zs:List Int,xs.map (fun (k:Nat)=>(k:Int))=zs:=⟨_,rfl⟩;have hzl:zs.length=xs.length:=by rw[← hz];simp
 rw[Nat.mul_one,aar,hz]at h4;have hH:=holds_of_blockI (ss:=zs) hg (by rw[hzl];exact h4);have hc:=K5 g cap zs w hH (aS.1 hg).1 ak;rw[hzl]at hc;refine hc.mono ?_;rintro e w' ⟨rfl,n,os,rfl⟩;have he:=aco hS hs;rw[hz]at he;rw[he];have hSl:=hS.length_eq;refine⟨rfl,?_,grownBy_sortedI _⟩;have:=ownsRow_sortedI (w:=w) (base:=B) (g:=g) (cap:=cap) (n:=n) (e:=3) (os:=os) (cur:=cur) (ss:=zs) (ts:=S.map fun(k:Nat)=>(k:Int)) (by simp[hzl,hSl]) hb hg ak h2 h3;rw[hzl,<-hSl,<-aar]at this;rw[← hSl];exact this
end
section
open Go.RowKit Tr
def UJ (p:Option Addr) (cap:Nat) (w:ay):Calls prog 161 #[.slice p 0 cap] w fun e w'=>e=.returned (.tuple #[])/\w'=w:=AnyG.slices_Sort_int_none qz p cap w
def Am {B:Nat} {v:Value} {xs S:List Nat} (h:w.ownsRow B 3 1 v xs.length (ints xs)) (hl:xs.length<=64) (hS:S.Perm xs) (hs:S.Pairwise (· <= ·)):
  Calls prog 161 #[v] w fun e w'=>e=.returned (.tuple #[])/\w'.ownsRow B 3 1 v S.length (ints S)/\w.grownBy w' v.ownBlock:=by
 by_cases e:xs= []
 ·subst e;have hn:=List.eq_nil_of_length_eq_zero (by simpa using hS.length_eq);subst hn;obtain⟨ao,c,rfl⟩:=bE h;refine(UJ ao c w).mono ?_;exact afg
 ·exact ahg h e hl hS hs
structure Coll (P:Nat->Bool) (left:Lit->Bool) (zs:List Nat):Prop where
 nodup:zs.Nodup
 mem:∀j,j∈zs↔P j=true/\left (KI j)=false
 sub:∀kl,left kl=true->∃j,kl=KI j/\P j=true
theorem Coll.start {D:DataW Unit} (h:F5 D P):Coll P (Maps.has D) [] where
 nodup:=List.nodup_nil
 mem j:=⟨fun h=>(by grind),fun⟨h1,h2⟩=>by
  grind[F5]⟩
 sub kl hk:=(h kl).1 hk
def Coll.step {left:Lit->Bool} (h:Coll P left zs) {x:Int} (hl:left (.int .i64 x)=true):
  ∃j:Nat,x=j/\P j=true/\j∉zs/\Coll P (fun z=>left z&& !z.sameKey (.int .i64 x)) (zs++ [j]):=by
 have⟨j,hj,hP⟩:=h.sub _ hl;have hx:x=j:=by grind
 subst hx;have hn:j∉zs:=by grind[mem]
 refine⟨j,rfl,hP,hn,⟨?_,fun i=>?_,fun kl hk=>h.sub kl (by grind)⟩⟩
 ·grind[nodup]
 grind[Lit.sameKey,mem]
def Coll.done {left:Lit->Bool} (h:Coll P left zs) (hl:∀kl,left kl=false):∀j,j∈zs↔P j=true:=fun j=>by
 rw[h.mem j,hl];simp
def ahh (h:zs.Nodup) (hb:∀j∈zs,j<64):zs.length<=64:=by
 have:=h.length_le_of_subset (l₂:=List.range 64) (fun x hx=>GZ.2 (hb x hx));grind
def ahi {k:TypeId} {R:Value->Option (DataW Unit×List MemPlace)} {b r n:Nat} {D:DataW Unit} {left:Lit->Bool} {cnt:Nat} (h:w.ranges prog k R b r n D left cnt):∀cs e f,w.heap[r]?≠some (.cells cs e f):=by
 obtain⟨es,clock,since,seen,c0,hb,_,_,_,hr,_⟩:=h;grind
def ahj {ops:Array Oper} {rest:List Oper} {o:Oper} {a:Act} {Q:Exit->Act->World->Prop} (hg:o.guard=none) (it:Operand) (hop:o.op=Op.next it false)
  (b r n:Nat) (D:DataW Unit) (left:Lit->Bool) (cnt:Nat) (hit:a.eval it=.pointer (some ⟨r,0,none⟩)) (h:w.ranges prog 3 unitElem b r n D left cnt)
  (hDone:cnt=0->(∀kl,left kl=false)->wpList prog ops Q rest (a.put o.dst (.tuple #[.bool false])) w)
  (hMore:∀(x:Int) (w':ay) (cnt':Nat),left (.int .i64 x)=true->w'.ranges prog 3 unitElem b r n D (fun z=>left z&& !z.sameKey (.int .i64 x)) cnt'->cnt'<cnt->
   w.grownBy w' (some r)->w'.heap.size=w.heap.size->(Instr.entry (.pointer (some ⟨r,0,none⟩))).run prog w'=.ok (.tuple #[.int .i64 x,.agg #[]]) w'->wpList prog ops Q rest (a.put o.dst (.tuple #[.bool true,.int .i64 x,.agg #[]])) w'):
  wpList prog ops Q (o::rest) a w:=
 wpList_next_ranges w hg it hop 3 Kz unitElem (Value.int .i64) (fun _:Unit=>Value.agg #[]) (fun key kl hkey=>by grind[Maps.keyOf_int_inv,underlying3]) (fun v y hv=>⟨(),(unitElem_inv hv).1⟩)
  b r n D left cnt hit h hDone (fun x c kl y w' cnt' hkey hlk hv hat hrg hlt hgr hsz hen=>by
   grind[Maps.keyOf_int_inv,underlying3])
end
end Go.Proofs.YtdhifkbbjlhcaaaGreatDoor
