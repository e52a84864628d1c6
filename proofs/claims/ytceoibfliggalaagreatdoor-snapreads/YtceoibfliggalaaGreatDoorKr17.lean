/-
  TEXTS: SnA, SnB, SnC.
-/
import Derived.Test.YtceoibfliggalaaGreatDoorKr16
import Derived.Test.YtceoibfliggalaaGreatDoorKr1
import Derived.Lib.SlBuf
import Derived.Test.YtceoibfliggalaaGreatDoorKr10
namespace Go.Proofs.YtceoibfliggalaaGreatDoor
open Go.RowKit Wd Tr Cg Ld
theorem Tryz.infB:(Tryz.prog.info? 5).map (·.size)=some 1:=by kernel_rfl
def arrK (n:Int):Nat→Array Value
 | 0=> #[.int .u8 0,.int .u8 0,.int .u8 0,.int .u8 0,.int .u8 0,.int .u8 0,.int .u8 0,.int .u8 0]
 | 1=> #[.int .u8 0,.int .u8 0,.int .u8 0,.int .u8 0,.int .u8 0,.int .u8 0,.int .u8 0,.int .u8 ((byU n 0).toNat:Int)]
 | 2=> #[.int .u8 0,.int .u8 0,.int .u8 0,.int .u8 0,.int .u8 0,.int .u8 0,.int .u8 ((byU n 1).toNat:Int),.int .u8 ((byU n 0).toNat:Int)]
 | 3=> #[.int .u8 0,.int .u8 0,.int .u8 0,.int .u8 0,.int .u8 0,.int .u8 ((byU n 2).toNat:Int),.int .u8 ((byU n 1).toNat:Int),.int .u8 ((byU n 0).toNat:Int)]
 | 4=> #[.int .u8 0,.int .u8 0,.int .u8 0,.int .u8 0,.int .u8 ((byU n 3).toNat:Int),.int .u8 ((byU n 2).toNat:Int),.int .u8 ((byU n 1).toNat:Int),.int .u8 ((byU n 0).toNat:Int)]
 | 5=> #[.int .u8 0,.int .u8 0,.int .u8 0,.int .u8 ((byU n 4).toNat:Int),.int .u8 ((byU n 3).toNat:Int),.int .u8 ((byU n 2).toNat:Int),.int .u8 ((byU n 1).toNat:Int),.int .u8 ((byU n 0).toNat:Int)]
 | 6=> #[.int .u8 0,.int .u8 0,.int .u8 ((byU n 5).toNat:Int),.int .u8 ((byU n 4).toNat:Int),.int .u8 ((byU n 3).toNat:Int),.int .u8 ((byU n 2).toNat:Int),.int .u8 ((byU n 1).toNat:Int),.int .u8 ((byU n 0).toNat:Int)]
 | 7=> #[.int .u8 0,.int .u8 ((byU n 6).toNat:Int),.int .u8 ((byU n 5).toNat:Int),.int .u8 ((byU n 4).toNat:Int),.int .u8 ((byU n 3).toNat:Int),.int .u8 ((byU n 2).toNat:Int),.int .u8 ((byU n 1).toNat:Int),.int .u8 ((byU n 0).toNat:Int)]
 | _=> #[.int .u8 ((byU n 7).toNat:Int),.int .u8 ((byU n 6).toNat:Int),.int .u8 ((byU n 5).toNat:Int),.int .u8 ((byU n 4).toNat:Int),.int .u8 ((byU n 3).toNat:Int),.int .u8 ((byU n 2).toNat:Int),.int .u8 ((byU n 1).toNat:Int),.int .u8 ((byU n 0).toNat:Int)]
structure Wr (W:World) (x B N:Nat) (l:List UInt8):Prop where
 blk:∃o,W.heap[x]?=some (.cells #[.slice (some ⟨B,o,none⟩) (N - l.length) (N - l.length)] 83 (0,0))∧o≤N∧(l.length<N→o=l.length)
 row:∃rest:List Value,W.heap[B]?=some (.cells (Lib.byteCells l++rest).toArray 5 (0,0))∧l.length+rest.length=N
 ne:x≠B
theorem Wr.lt {W:World} {x B N:Nat} {l:List UInt8} (h:Wr W x B N l):x<W.heap.size∧B<W.heap.size:=by
 obtain⟨rest,h1,_⟩:=h.row
 obtain⟨o,h2,_⟩:=h.blk
 exact⟨(Array.getElem?_eq_some_iff.1 h2).1,(Array.getElem?_eq_some_iff.1 h1).1⟩
theorem Wr.keep {W W':World} {x B N:Nat} {l:List UInt8} (h:Wr W x B N l) (b:Below W.heap.size W W'):Wr W' x B N l:=by
 obtain⟨rest,h1,h2⟩:=h.row
 obtain⟨o,h3,h4⟩:=h.blk
 exact⟨⟨o,(b.block x h.lt.1).trans h3,h4⟩,⟨rest,(b.block B h.lt.2).trans h1,h2⟩,h.ne⟩
theorem Wr.more {w wr W2:World} {x B N m q:Nat} {l s:List UInt8} {o:Nat} {rest:List Value} (hl:l.length+m=N) (hq:q≤m) (hs:s.length=q) (ho:o≤N) (ho2:q<m→o=l.length) (hx:W2.heap[x]?=some (.cells #[.slice (some ⟨B,o,none⟩) m m] 83 (0,0))) (hB:W2.heap[B]?=some (.cells (Lib.byteCells (l++s)++rest).toArray 5 (0,0))) (hr:(l++s).length+rest.length=N) (hne:x≠B) (b:Below w.heap.size w wr) (k:Chg (fun k=>k=B) wr W2) {v:Value} (hv:v=.slice (if m=q then some ⟨B,o,none⟩else some ⟨B,o+q,none⟩) (m - q) (m - q)):
  Wr (W2.setCell ⟨x,0,none⟩ v) x B N (l++s)∧Chg (fun k=>k=x∨k=B) w (W2.setCell ⟨x,0,none⟩ v):=by
 have e:=heap_setCell_same W2 x 0 _ _ v hx
 have eN:N - (l++s).length=m - q:=by rw [List.length_append];omega
 refine⟨⟨?_,⟨rest,(Below.heap_setCell _ _ _ _ (fun e=>hne e.symm)).trans hB,hr⟩,hne⟩,?_⟩
 ·rw [eN]
  by_cases hm:m=q
  ·rw [hv,if_pos hm]at e
   rw [hv,if_pos hm]
   exact⟨o,e,ho,fun h=>by rw [List.length_append]at h;omega⟩
  ·rw [hv,if_neg hm]at e
   rw [hv,if_neg hm]
   have:=ho2 (by omega)
   exact⟨o+q,e,by omega,fun _=>by rw [List.length_append];omega⟩
 ·refine ((Chg.of_below b _).trans k (fun _ _ e=>.inr e)).trans (K':=fun k=>k=x) ⟨rfl,rfl,rfl,by simp [World.setCell],fun i _ hi=>Below.heap_setCell _ _ _ _ (fun e=>hi e)⟩ (fun _ _ e=>.inl e)
set_option maxRecDepth 20000 in
set_option maxHeartbeats 2000000 in
theorem number_any {w:World} {x B N:Nat} {l:List UInt8} (h:Wr w x B N l) (n:Int) (hN:l.length+8≤N):Calls Tryz.prog 58 #[.pointer (some ⟨x,0,none⟩),.int .i64 n] w fun e w'=>e=.returned (.tuple #[])∧Wr w' x B N (l++be8 n)∧Chg (fun k=>k=x∨k=B) w w':=by
 have hxl:=h.lt
 have H:Hid _:=h
 clear h
 go_enter Tryz.func58,Tryz.ntmps58
 go_wp2
 go_loopg [5,6] 8 (fun gk u p wr=>∃k:Nat,k+gk=8∧p=.int .i64 k∧wr.heap[w.heap.size]?=some (.cells (arrK n k) 159 (0,0))∧Below w.heap.size w wr)
 case atStart=>exact⟨0,by omega,rfl,heap_alloc_new w _,(Below.refl _ _).alloc (Nat.le_refl _) _⟩
 case round=>
  obtain⟨k,hk,rfl,hR,bR⟩:=hrel
  obtain rfl | rfl | rfl | rfl | rfl | rfl | rfl | rfl | rfl:k=0∨k=1∨k=2∨k=3∨k=4∨k=5∨k=6∨k=7∨k=8:=by omega
  ·have cg:wr.cell? ⟨w.heap.size,7,none⟩=some (.int .u8 0):=cells_at hR rfl
   have fz:wr.frozen? ⟨w.heap.size,7,none⟩=false:=frozen_at hR
   have hn:wr.heap[w.heap.size]?=some (.cells (arrK n 0) 159 (0,0)):=hR
   have hu:n % 256=((byU n 0).toNat:Int):=by rw [byU_nat];simp
   have hv:=heap_setCell_same wr w.heap.size 7 _ _ (.int .u8 (n % 256)) hn
   rw [hu]at hv
   have bv:=bR.setCell (p:=⟨w.heap.size,7,none⟩) (Nat.le_refl _) (.int .u8 (n % 256))
   rw [hu]at bv
   have HU:Hid _:=hu
   have HR:Hid _:=hv
   have HB:Hid _:=bv
   clear hR bR hn hv bv hu
   go_wp2
   go_roundg 7
   case measure=>omega
   case rel=>rw [HU.out];exact⟨1,by omega,rfl,HR.out,HB.out⟩
  ·have cg:wr.cell? ⟨w.heap.size,6,none⟩=some (.int .u8 0):=cells_at hR rfl
   have fz:wr.frozen? ⟨w.heap.size,6,none⟩=false:=frozen_at hR
   have hn:wr.heap[w.heap.size]?=some (.cells (arrK n 1) 159 (0,0)):=hR
   have hu:n / 256 % 256=((byU n 1).toNat:Int):=by rw [byU_nat];rfl
   have hv:=heap_setCell_same wr w.heap.size 6 _ _ (.int .u8 (n / 256 % 256)) hn
   rw [hu]at hv
   have bv:=bR.setCell (p:=⟨w.heap.size,6,none⟩) (Nat.le_refl _) (.int .u8 (n / 256 % 256))
   rw [hu]at bv
   have HU:Hid _:=hu
   have HR:Hid _:=hv
   have HB:Hid _:=bv
   clear hR bR hn hv bv hu
   go_wp2
   go_roundg 6
   case measure=>omega
   case rel=>rw [HU.out];exact⟨2,by omega,rfl,HR.out,HB.out⟩
  ·have cg:wr.cell? ⟨w.heap.size,5,none⟩=some (.int .u8 0):=cells_at hR rfl
   have fz:wr.frozen? ⟨w.heap.size,5,none⟩=false:=frozen_at hR
   have hn:wr.heap[w.heap.size]?=some (.cells (arrK n 2) 159 (0,0)):=hR
   have hu:n / 65536 % 256=((byU n 2).toNat:Int):=by rw [byU_nat];rfl
   have hv:=heap_setCell_same wr w.heap.size 5 _ _ (.int .u8 (n / 65536 % 256)) hn
   rw [hu]at hv
   have bv:=bR.setCell (p:=⟨w.heap.size,5,none⟩) (Nat.le_refl _) (.int .u8 (n / 65536 % 256))
   rw [hu]at bv
   have HU:Hid _:=hu
   have HR:Hid _:=hv
   have HB:Hid _:=bv
   clear hR bR hn hv bv hu
   go_wp2
   go_roundg 5
   case measure=>omega
   case rel=>rw [HU.out];exact⟨3,by omega,rfl,HR.out,HB.out⟩
  ·have cg:wr.cell? ⟨w.heap.size,4,none⟩=some (.int .u8 0):=cells_at hR rfl
   have fz:wr.frozen? ⟨w.heap.size,4,none⟩=false:=frozen_at hR
   have hn:wr.heap[w.heap.size]?=some (.cells (arrK n 3) 159 (0,0)):=hR
   have hu:n / 16777216 % 256=((byU n 3).toNat:Int):=by rw [byU_nat];rfl
   have hv:=heap_setCell_same wr w.heap.size 4 _ _ (.int .u8 (n / 16777216 % 256)) hn
   rw [hu]at hv
   have bv:=bR.setCell (p:=⟨w.heap.size,4,none⟩) (Nat.le_refl _) (.int .u8 (n / 16777216 % 256))
   rw [hu]at bv
   have HU:Hid _:=hu
   have HR:Hid _:=hv
   have HB:Hid _:=bv
   clear hR bR hn hv bv hu
   go_wp2
   go_roundg 4
   case measure=>omega
   case rel=>rw [HU.out];exact⟨4,by omega,rfl,HR.out,HB.out⟩
  ·have cg:wr.cell? ⟨w.heap.size,3,none⟩=some (.int .u8 0):=cells_at hR rfl
   have fz:wr.frozen? ⟨w.heap.size,3,none⟩=false:=frozen_at hR
   have hn:wr.heap[w.heap.size]?=some (.cells (arrK n 4) 159 (0,0)):=hR
   have hu:n / 4294967296 % 256=((byU n 4).toNat:Int):=by rw [byU_nat];rfl
   have hv:=heap_setCell_same wr w.heap.size 3 _ _ (.int .u8 (n / 4294967296 % 256)) hn
   rw [hu]at hv
   have bv:=bR.setCell (p:=⟨w.heap.size,3,none⟩) (Nat.le_refl _) (.int .u8 (n / 4294967296 % 256))
   rw [hu]at bv
   have HU:Hid _:=hu
   have HR:Hid _:=hv
   have HB:Hid _:=bv
   clear hR bR hn hv bv hu
   go_wp2
   go_roundg 3
   case measure=>omega
   case rel=>rw [HU.out];exact⟨5,by omega,rfl,HR.out,HB.out⟩
  ·have cg:wr.cell? ⟨w.heap.size,2,none⟩=some (.int .u8 0):=cells_at hR rfl
   have fz:wr.frozen? ⟨w.heap.size,2,none⟩=false:=frozen_at hR
   have hn:wr.heap[w.heap.size]?=some (.cells (arrK n 5) 159 (0,0)):=hR
   have hu:n / 1099511627776 % 256=((byU n 5).toNat:Int):=by rw [byU_nat];rfl
   have hv:=heap_setCell_same wr w.heap.size 2 _ _ (.int .u8 (n / 1099511627776 % 256)) hn
   rw [hu]at hv
   have bv:=bR.setCell (p:=⟨w.heap.size,2,none⟩) (Nat.le_refl _) (.int .u8 (n / 1099511627776 % 256))
   rw [hu]at bv
   have HU:Hid _:=hu
   have HR:Hid _:=hv
   have HB:Hid _:=bv
   clear hR bR hn hv bv hu
   go_wp2
   go_roundg 2
   case measure=>omega
   case rel=>rw [HU.out];exact⟨6,by omega,rfl,HR.out,HB.out⟩
  ·have cg:wr.cell? ⟨w.heap.size,1,none⟩=some (.int .u8 0):=cells_at hR rfl
   have fz:wr.frozen? ⟨w.heap.size,1,none⟩=false:=frozen_at hR
   have hn:wr.heap[w.heap.size]?=some (.cells (arrK n 6) 159 (0,0)):=hR
   have hu:n / 281474976710656 % 256=((byU n 6).toNat:Int):=by rw [byU_nat];rfl
   have hv:=heap_setCell_same wr w.heap.size 1 _ _ (.int .u8 (n / 281474976710656 % 256)) hn
   rw [hu]at hv
   have bv:=bR.setCell (p:=⟨w.heap.size,1,none⟩) (Nat.le_refl _) (.int .u8 (n / 281474976710656 % 256))
   rw [hu]at bv
   have HU:Hid _:=hu
   have HR:Hid _:=hv
   have HB:Hid _:=bv
   clear hR bR hn hv bv hu
   go_wp2
   go_roundg 1
   case measure=>omega
   case rel=>rw [HU.out];exact⟨7,by omega,rfl,HR.out,HB.out⟩
  ·have cg:wr.cell? ⟨w.heap.size,0,none⟩=some (.int .u8 0):=cells_at hR rfl
   have fz:wr.frozen? ⟨w.heap.size,0,none⟩=false:=frozen_at hR
   have hn:wr.heap[w.heap.size]?=some (.cells (arrK n 7) 159 (0,0)):=hR
   have hu:n / 72057594037927936 % 256=((byU n 7).toNat:Int):=by rw [byU_nat];rfl
   have hv:=heap_setCell_same wr w.heap.size 0 _ _ (.int .u8 (n / 72057594037927936 % 256)) hn
   rw [hu]at hv
   have bv:=bR.setCell (p:=⟨w.heap.size,0,none⟩) (Nat.le_refl _) (.int .u8 (n / 72057594037927936 % 256))
   rw [hu]at bv
   have HU:Hid _:=hu
   have HR:Hid _:=hv
   have HB:Hid _:=bv
   clear hR bR hn hv bv hu
   go_wp2
   go_roundg 0
   case measure=>omega
   case rel=>rw [HU.out];exact⟨8,by omega,rfl,HR.out,HB.out⟩
  ·have hR8:wr.heap[w.heap.size]?=some (.cells (arrK n 8) 159 (0,0)):=hR
   have h8:=H.out.keep bR
   obtain⟨rest,hrow,hlen⟩:=h8.row
   obtain⟨m,hm⟩:∃m,N - l.length=m:=⟨_,rfl⟩
   have hm8:8≤m:=by omega
   have hmi:(8:Int)≤m:=by omega
   obtain⟨o,hblk,_,ho⟩:=h8.blk
   obtain rfl:=ho (by omega)
   rw [hm]at hblk
   have hcp:=run_copy_row Tryz.prog wr.drew 35 35 3 5 B l.length m m ⟨w.heap.size,0,none⟩ 8 8 (Lib.byteCells l++rest).toArray 5 (Lib.byteCells (be8 n)) Tryz.underlying35 Tryz.infB hrow (by rw [Lib.byteCells_length,be8_len];exact(Nat.min_eq_left hm8).symm) (fun j v hv=>by
    have hj:(⟨w.heap.size,0,none⟩:Addr).add j=⟨w.heap.size,j,none⟩:=by unfold Addr.add;split<;>simp_all
    rw [hj]
    refine cells_at (show wr.drew.heap[w.heap.size]?=_ from hR8) ?_
    rw [← hv,show arrK n 8=(Lib.byteCells (be8 n)).toArray from rfl]
    simp) (by simp [Lib.byteCells_length,be8_len];omega) (Lib.byteCells_one _)
   have erow:((Lib.byteCells l++rest).toArray.toList.take l.length++Lib.byteCells (be8 n)++(Lib.byteCells l++rest).toArray.toList.drop (l.length+(Lib.byteCells (be8 n)).length))=Lib.byteCells (l++be8 n)++rest.drop 8:=by
    have e1:(Lib.byteCells l).length=l.length:=Lib.byteCells_length _
    have e2:(Lib.byteCells (be8 n)).length=8:=by rw [Lib.byteCells_length];rfl
    rw [e2,List.toList_toArray,List.take_left' e1,List.drop_append,e1]
    rw [List.drop_of_length_le (by rw [e1];omega),List.nil_append,show l.length+8 - l.length=8 by omega]
    unfold Lib.byteCells
    rw [List.map_append]
   rw [erow,show (Lib.byteCells (be8 n)).length=8 by rw [Lib.byteCells_length];rfl]at hcp
   obtain⟨W2,hW2⟩:∃W2,wr.drew.setRow B (Lib.byteCells (l++be8 n)++rest.drop 8).toArray=W2:=⟨_,rfl⟩
   rw [hW2]at hcp
   have hx2:W2.heap[x]?=some (.cells #[.slice (some ⟨B,l.length,none⟩) m m] 83 (0,0)):=by rw [← hW2];exact(setRow_other _ _ _ _ h8.ne).trans hblk
   have hB2:W2.heap[B]?=some (.cells (Lib.byteCells (l++be8 n)++rest.drop 8).toArray 5 (0,0)):=by rw [← hW2];exact setRow_heap _ _ _ _ _ _ (show wr.drew.heap[B]?=_ from hrow)
   have k2:Chg (fun k=>k=B) wr W2:=by rw [← hW2];exact⟨rfl,rfl,rfl,by simp [World.setRow],fun i hi hne=>setRow_other _ _ _ _ hne⟩
   have HCP:Hid _:=hcp
   have HX2:Hid _:=hx2
   have HB2:Hid _:=hB2
   have HK2:Hid _:=k2
   have HBL:Hid (wr.drew.heap[x]?=some (.cells #[.slice (some ⟨B,l.length,none⟩) m m] 83 (0,0))):=hblk
   have HBR:Hid _:=bR
   have HM:Hid _:=hm
   have HLN:Hid _:=hlen
   clear hcp hx2 hB2 k2 hblk bR hm hlen hrow hR hR8 h8 hW2 erow
   go_upto_region 6 with fail
   refine wp_region_last (S:=(fun v:World=>v.heap[x]?=some (.cells #[.slice (some ⟨B,l.length,none⟩) m m] 83 (0,0)))) (L:=14) (by kernel_rfl) ?_
   have HSW0:(fun v:World=>v.heap[x]?=some (.cells #[.slice (some ⟨B,l.length,none⟩) m m] 83 (0,0))) (wr.drew):=HBL.out
   have HF:Hid (∀xx:World,(fun v:World=>v.heap[x]?=some (.cells #[.slice (some ⟨B,l.length,none⟩) m m] 83 (0,0))) xx→xx.cell? ⟨x,0,none⟩=some (.slice (some ⟨B,l.length,none⟩) m m)∧True):=fun xx hSx=>⟨cells_at (show xx.heap[x]?=_ from hSx) rfl,trivial⟩
   refine tc [0,14] 0 HSW0 (h:=?_)
   refine tc [1,14] 1 HSW0 (h:=?_)
   refine tc [2,14] 2 HSW0 (h:=?_)
   refine tc [3,14] 3 HSW0 (h:=?_)
   refine tc [4,14] 4 HSW0 (h:=?_)
   refine tc [5,14] 5 HSW0 (h:=?_)
   refine tc [6,14] 6 HSW0 (h:=?_)
   refine tc [7,14] 7 HSW0 (h:=?_)
   refine tc [8,14] 8 HSW0 (h:=?_)
   refine tc [9,14] 9 HSW0 (h:=?_)
   refine last_one (i:=10) (by kernel_rfl) rfl ?_
   intro K hK
   rw [if_pos (by rfl)]
   refine Lib.wp_copy_run _ (.tmp 26) (.tmp 27) 35 35 rfl (.slice (some ⟨B,l.length,none⟩) m m) (.slice (some ⟨w.heap.size,0,none⟩) 8 8) (by simp [Act.eval]) (by simp [Act.eval]) HCP.out ?_
   refine hK.out _ _ (fun _=>HX2.out) (fun _=>?_)
   clear hK K
   simp only [Act.put,goInt,List.setIfInBounds_toArray]
   refine last_takeC [11,14] (i:=11) (v:=?v11k11) rfl (by kernel_rfl) (by kernel_rfl) (by kernel_rfl) (by kernel_rfl) rfl (fun _ _ _ h=>h) (by rfl) HX2.out ?hy11k11 ?rest11k11
   case hy11k11=>
    intro xx hSx
    have q0:xx.cell? ⟨x,0,none⟩=some (.slice (some ⟨B,l.length,none⟩) m m):=cells_at (show xx.heap[x]?=_ from hSx) rfl
    clear hSx
    go_simp
    try (with_reducible rfl)
   simp only [Act.put]
   obtain⟨v29,hv29⟩:∃v:Option Addr,v=(if m=8 then some ⟨B,l.length,none⟩else some ⟨B,l.length+8,none⟩):=⟨_,rfl⟩
   rw [← hv29]
   have HV29:Hid _:=hv29
   clear hv29
   refine last_takeC [12,13,14] (i:=12) (v:=?v12k12) rfl (by kernel_rfl) (by kernel_rfl) (by kernel_rfl) (by kernel_rfl) rfl (fun _ _ _ h=>h) (by rfl) HX2.out ?hy12k12 ?rest12k12
   case hy12k12=>
    intro xx hSx
    have q0:xx.cell? ⟨x,0,none⟩=some (.slice (some ⟨B,l.length,none⟩) m m):=cells_at (show xx.heap[x]?=_ from hSx) rfl
    clear hSx
    go_simp
    try (with_reducible rfl)
   simp only [Act.put]
   refine last_takeC [13,14] (i:=13) (v:=?v13k13) rfl (by kernel_rfl) (by kernel_rfl) (by kernel_rfl) (by kernel_rfl) rfl (fun _ _ _ h=>h) (by rfl) HX2.out ?hy13k13 ?rest13k13
   case hy13k13=>
    intro xx hSx
    have q0:xx.cell? ⟨x,0,none⟩=some (.slice (some ⟨B,l.length,none⟩) m m):=cells_at (show xx.heap[x]?=_ from hSx) rfl
    clear hSx
    go_simp
    try (with_reducible rfl)
   simp only [Act.put]
   refine last_one (i:=14) (by kernel_rfl) rfl ?_
   intro K hK
   have x0:W2.cell? ⟨x,0,none⟩=some (.slice (some ⟨B,l.length,none⟩) m m):=cells_at HX2.out rfl
   have f0:W2.frozen? ⟨x,0,none⟩=false:=frozen_at HX2.out
   go_simp
   refine hK.out _ _ (fun h=>absurd rfl h) (fun _=>?_)
   clear hK K
   refine last_done (by kernel_rfl) ?_ _
   go_wp2
   go_end0
   have hl1:=HLN.out
   have hl2:=HM.out
   have hgo:=Wr.more (N:=N) (m:=m) (o:=l.length) (q:=8) (s:=be8 n) (by omega) hm8 rfl (by omega) (fun _=>rfl) HX2.out HB2.out (by rw [List.length_append,be8_len,List.length_drop];omega) (Wr.ne H.out) HBR.out HK2.out (v:=.slice v29 (m - 8) (m - 8)) (by rw [HV29.out])
   exact⟨rfl,hgo.1,hgo.2⟩
end Go.Proofs.YtceoibfliggalaaGreatDoor
namespace Go.Proofs.YtceoibfliggalaaGreatDoor
open Go.RowKit Wd Tr Cg Ld Lg
set_option maxRecDepth 20000 in
set_option maxHeartbeats 2000000 in
theorem text_any {w:World} {x B N:Nat} {l:List UInt8} (h:Wr w x B N l) (s:ByteArray) (hN:l.length+s.size≤N):Calls Tryz.prog 56 #[.pointer (some ⟨x,0,none⟩),.string s] w fun e w'=>e=.returned (.tuple #[])∧Wr w' x B N (l++s.data.toList)∧Chg (fun k=>k=x∨k=B) w w':=by
 obtain⟨rest,hrow,hlen⟩:=h.row
 obtain⟨m,hm⟩:∃m,N - l.length=m:=⟨_,rfl⟩
 obtain⟨o,hblk,hoN,ho⟩:=h.blk
 rw [hm]at hblk
 have hne:=h.ne
 have hsl:s.data.toList.length=s.size:=(Lib.size_eq s).symm
 obtain⟨q,hq⟩:∃q,s.size=q:=⟨_,rfl⟩
 have hqm:q≤m:=by omega
 have hqi:(q:Int)≤m:=by omega
 have hfit:o+s.size≤l.length+rest.length:=by
  by_cases h0:l.length<N
  ·have:=ho h0
   omega
  ·omega
 have hcp:=Lib.run_copy_row_string (P:=Tryz.prog) w.drew 35 9 3 5 B o m m s (Lib.byteCells l++rest).toArray 5 Tryz.underlying35 Tryz.infB hrow (by omega) (by simp [Lib.byteCells_length];omega)
 have erow:((Lib.byteCells l++rest).toArray.toList.take o++Lib.byteCells s.data.toList++(Lib.byteCells l++rest).toArray.toList.drop (o+s.size))=Lib.byteCells (l++s.data.toList)++rest.drop q:=by
  have e1:(Lib.byteCells l).length=l.length:=Lib.byteCells_length _
  have ea:Lib.byteCells (l++s.data.toList)=Lib.byteCells l++Lib.byteCells s.data.toList:=by unfold Lib.byteCells;rw [List.map_append]
  rw [hq,List.toList_toArray,ea]
  by_cases h0:q=0
  ·have e0:s.data.toList= []:=List.length_eq_zero_iff.1 (by omega)
   have e2:Lib.byteCells s.data.toList= []:=by rw [e0];rfl
   rw [e2,h0]
   simp
  ·obtain rfl:=ho (by omega)
   rw [List.take_left' e1,List.drop_append,e1,List.drop_of_length_le (by rw [e1];omega),List.nil_append,show l.length+q - l.length=q by omega]
 rw [erow,hq]at hcp
 obtain⟨W2,hW2⟩:∃W2,w.drew.setRow B (Lib.byteCells (l++s.data.toList)++rest.drop q).toArray=W2:=⟨_,rfl⟩
 rw [hW2]at hcp
 have hx2:W2.heap[x]?=some (.cells #[.slice (some ⟨B,o,none⟩) m m] 83 (0,0)):=by rw [← hW2];exact(setRow_other _ _ _ _ hne).trans hblk
 have hB2:W2.heap[B]?=some (.cells (Lib.byteCells (l++s.data.toList)++rest.drop q).toArray 5 (0,0)):=by rw [← hW2];exact setRow_heap _ _ _ _ _ _ (show w.drew.heap[B]?=_ from hrow)
 have k2:Chg (fun k=>k=B) w W2:=by rw [← hW2];exact⟨rfl,rfl,rfl,by simp [World.setRow],fun i hi hne=>setRow_other _ _ _ _ hne⟩
 have hgo:∀v:Option Addr,v=(if m=q then some ⟨B,o,none⟩else some ⟨B,o+q,none⟩)→_:=fun v hv=>Wr.more (w:=w) (wr:=w) (N:=N) (m:=m) (o:=o) (q:=q) (l:=l) (s:=s.data.toList) (rest:=rest.drop q) (by omega) hqm (by omega) hoN (fun h=>ho (by omega)) hx2 hB2 (by rw [List.length_append,List.length_drop];omega) hne (Below.refl _ _) k2 (v:=.slice v (m - q) (m - q)) (by rw [hv])
 have HCP:Hid _:=hcp
 have HX2:Hid _:=hx2
 have HGO:Hid _:=hgo
 have HBL:Hid (w.drew.heap[x]?=some (.cells #[.slice (some ⟨B,o,none⟩) m m] 83 (0,0))):=hblk
 clear hcp hx2 hB2 k2 hblk hm hlen hrow h hW2 erow hgo hq hsl hN
 go_enter Tryz.func56,Tryz.ntmps56
 go_upto_region 0 with fail
 refine wp_region_last (S:=(fun v:World=>v.heap[x]?=some (.cells #[.slice (some ⟨B,o,none⟩) m m] 83 (0,0)))) (L:=14) (by kernel_rfl) ?_
 have HSW0:(fun v:World=>v.heap[x]?=some (.cells #[.slice (some ⟨B,o,none⟩) m m] 83 (0,0))) (w.drew):=HBL.out
 have HF:Hid (∀xx:World,(fun v:World=>v.heap[x]?=some (.cells #[.slice (some ⟨B,o,none⟩) m m] 83 (0,0))) xx→xx.cell? ⟨x,0,none⟩=some (.slice (some ⟨B,o,none⟩) m m)∧True):=fun xx hSx=>⟨cells_at (show xx.heap[x]?=_ from hSx) rfl,trivial⟩
 refine tc [0,14] 0 HSW0 (h:=?_)
 refine tc [1,14] 1 HSW0 (h:=?_)
 refine tc [2,14] 2 HSW0 (h:=?_)
 refine tc [3,14] 3 HSW0 (h:=?_)
 refine tc [4,14] 4 HSW0 (h:=?_)
 refine tc [5,14] 5 HSW0 (h:=?_)
 refine tc [6,14] 6 HSW0 (h:=?_)
 refine tc [7,14] 7 HSW0 (h:=?_)
 refine tc [8,14] 8 HSW0 (h:=?_)
 refine tc [9,14] 9 HSW0 (h:=?_)
 refine last_one (i:=10) (by kernel_rfl) rfl ?_
 intro K hK
 rw [if_pos (by rfl)]
 refine Lib.wp_copy_run _ (.tmp 12) (.tmp 13) 35 9 rfl (.slice (some ⟨B,o,none⟩) m m) (.string s) (by simp [Act.eval]) (by simp [Act.eval]) HCP.out ?_
 refine hK.out _ _ (fun _=>HX2.out) (fun _=>?_)
 clear hK K
 simp only [Act.put,goInt,List.setIfInBounds_toArray]
 refine last_takeC [11,14] (i:=11) (v:=?v11k11) rfl (by kernel_rfl) (by kernel_rfl) (by kernel_rfl) (by kernel_rfl) rfl (fun _ _ _ h=>h) (by rfl) HX2.out ?hy11k11 ?rest11k11
 case hy11k11=>
  intro xx hSx
  have q0:xx.cell? ⟨x,0,none⟩=some (.slice (some ⟨B,o,none⟩) m m):=cells_at (show xx.heap[x]?=_ from hSx) rfl
  clear hSx
  go_simp
  try (with_reducible rfl)
 simp only [Act.put]
 obtain⟨v29,hv29⟩:∃v:Option Addr,v=(if m=q then some ⟨B,o,none⟩else some ⟨B,o+q,none⟩):=⟨_,rfl⟩
 rw [← hv29]
 have HV29:Hid _:=hv29
 clear hv29
 refine last_takeC [12,13,14] (i:=12) (v:=?v12k12) rfl (by kernel_rfl) (by kernel_rfl) (by kernel_rfl) (by kernel_rfl) rfl (fun _ _ _ h=>h) (by rfl) HX2.out ?hy12k12 ?rest12k12
 case hy12k12=>
  intro xx hSx
  have q0:xx.cell? ⟨x,0,none⟩=some (.slice (some ⟨B,o,none⟩) m m):=cells_at (show xx.heap[x]?=_ from hSx) rfl
  clear hSx
  go_simp
  try (with_reducible rfl)
 simp only [Act.put]
 refine last_takeC [13,14] (i:=13) (v:=?v13k13) rfl (by kernel_rfl) (by kernel_rfl) (by kernel_rfl) (by kernel_rfl) rfl (fun _ _ _ h=>h) (by rfl) HX2.out ?hy13k13 ?rest13k13
 case hy13k13=>
  intro xx hSx
  have q0:xx.cell? ⟨x,0,none⟩=some (.slice (some ⟨B,o,none⟩) m m):=cells_at (show xx.heap[x]?=_ from hSx) rfl
  clear hSx
  go_simp
  try (with_reducible rfl)
 simp only [Act.put]
 refine last_one (i:=14) (by kernel_rfl) rfl ?_
 intro K hK
 have x0:W2.cell? ⟨x,0,none⟩=some (.slice (some ⟨B,o,none⟩) m m):=cells_at HX2.out rfl
 have f0:W2.frozen? ⟨x,0,none⟩=false:=frozen_at HX2.out
 go_simp
 refine hK.out _ _ (fun h=>absurd rfl h) (fun _=>?_)
 clear hK K
 refine last_done (by kernel_rfl) ?_ _
 go_wp2
 go_end0
 exact⟨rfl,(HGO.out _ HV29.out).1,(HGO.out _ HV29.out).2⟩
set_option maxRecDepth 20000 in
set_option maxHeartbeats 1000000 in
theorem numbers_any {w:World} {x B N:Nat} {l:List UInt8} {ao:Option Addr} {ns:List Int} {c:Nat} (h:Wr w x B N l) (hI:IntsAt w ao ns) (hk:0<ns.length→∀g o k,ao=some ⟨g,o,k⟩→g≠x∧g≠B) (hN:l.length+ns.length*8≤N) (hl:ns.length≤140737488355328):Calls Tryz.prog 113 #[.pointer (some ⟨x,0,none⟩),.slice ao ns.length c] w fun e w'=>e=.returned (.tuple #[])∧Wr w' x B N (l++numsB ns)∧Chg (fun k=>k=x∨k=B) w w':=by
 obtain⟨g,o,hg,hc⟩:=hI
 obtain⟨q,hq⟩:∃q,ns.length=q:=⟨_,rfl⟩
 have HC:Hid _:=hc
 have HG:Hid _:=hg
 have HK:Hid _:=hk
 have HQ:Hid _:=hq
 have H:Hid _:=h
 rw [hq]at hN hl ⊢
 clear h hc hg hk hq
 go_enter Tryz.func113,Tryz.ntmps113
 go_wp2
 go_loopg [5,8] q (fun gk u p wr=>∃k:Nat,k+gk=q∧p=.int .i64 k∧Wr wr x B N (l++numsB (ns.take k))∧Chg (fun k=>k=x∨k=B) w wr)
 case atStart=>exact⟨0,by omega,rfl,by rw [List.take_zero];simpa [numsB]using H.out,Chg.refl _ _⟩
 case round=>
  obtain⟨k,hk,rfl,hW,hC⟩:=hrel
  by_cases hlt:k<q
  ·have hlt':(k:Int)<q:=by omega
   have hlt2:k<ns.length:=by rw [HQ.out];exact hlt
   obtain⟨n,hn⟩:∃n,ns[k]?=some n:=⟨_,List.getElem?_eq_getElem hlt2⟩
   have eao:=HG.out (by omega)
   have hgk:=HK.out (by omega) g o none eao
   subst eao
   have c0:wr.cell? ⟨g,o+k,none⟩=some (.int .i64 n):=by
    have h1:=HC.out k n hn
    exact hC.cell h1 (fun e=>by rcases e with e | e;exact hgk.1 e;exact hgk.2 e)
   have hlw:(l++numsB (ns.take k)).length=l.length+k*8:=by rw [List.length_append,nums_len,List.length_take];omega
   have hnum:=number_any hW n (by rw [hlw];omega)
   have e1:l++numsB (ns.take k)++be8 n=l++numsB (ns.take (k+1)):=by
    rw [List.take_add_one,hn,Option.toList_some,nums_app,List.append_assoc]
    simp [numsB]
   rw [e1]at hnum
   have HCh:Hid _:=hC
   clear hC hW hn e1 hlw
   go_wp2_with (go_at_call 58;refine hnum.mono ?_;rintro e w2 ⟨rfl,hW2,hC2⟩;have HW2:Hid _:=hW2;have HC2:Hid _:=hC2;clear hW2 hC2)
   go_roundg (q - (k+1))
   case measure=>omega
   case rel=>exact⟨k+1,by omega,by go_num,HW2.out,HCh.out.trans HC2.out (fun _ _ e=>e)⟩
  ·have hlt':¬(k:Int)<q:=by omega
   obtain rfl:k=q:=by omega
   rw [← HQ.out,List.take_length]at hW
   have HW:Hid _:=hW
   have HCh:Hid _:=hC
   clear hW hC
   go_wp2
   go_end0
   exact⟨rfl,HW.out,HCh.out⟩
end Go.Proofs.YtceoibfliggalaaGreatDoor
namespace Go.Proofs.YtceoibfliggalaaGreatDoor
open Go.RowKit Wd Tr Cg Ld Lg
theorem wk_cell {w w':World} {x B g o:Nat} {v:Value} (c:Chg (fun k=>k=x∨k=B) w w') (hg:g≠x∧g≠B) (h:w.cell? ⟨g,o,none⟩=some v):w'.cell? ⟨g,o,none⟩=some v:=c.cell h (fun e=>by rcases e with e | e;exact hg.1 e;exact hg.2 e)
theorem wk_blk {w w':World} {x B g:Nat} {b:Obj} (c:Chg (fun k=>k=x∨k=B) w w') (hg:g≠x∧g≠B) (h:w.heap[g]?=some b):w'.heap[g]?=some b:=(c.block g (Array.getElem?_eq_some_iff.1 h).1 (fun e=>by rcases e with e | e;exact hg.1 e;exact hg.2 e)).trans h
theorem numbers_blk {w:World} {x B N:Nat} {l:List UInt8} {g t q c:Nat} {ns:List Int} (h:Wr w x B N l) (hb:w.heap[g]?=some (.cells (ns.map (Value.int .i64)).toArray t (0,0))) (hg:g≠x∧g≠B) (hq:ns.length=q) (hN:l.length+q*8≤N) (hl:q≤1000):Calls Tryz.prog 113 #[.pointer (some ⟨x,0,none⟩),.slice (some ⟨g,0,none⟩) q c] w fun e w'=>e=.returned (.tuple #[])∧Wr w' x B N (l++numsB ns)∧Chg (fun k=>k=x∨k=B) w w':=by
 subst hq
 exact numbers_any h ⟨g,0,fun _=>rfl,fun k n hk=>cells_at hb (by simp [hk])⟩ (fun _ g' o k e=>by cases e;exact hg) hN (by omega)
set_option maxRecDepth 20000 in
set_option maxHeartbeats 1000000 in
theorem whead_any {w:World} {x B N:Nat} {l:List UInt8} (h:Wr w x B N l) (c:Cf) (now hd:Int) (u v:Value) (hN:l.length+80≤N):Calls Tryz.prog 57 #[.pointer (some ⟨x,0,none⟩),.agg #[.int .i64 c.nodes,.int .i64 c.queue,.int .i64 c.limit,.int .i64 c.age,.int .i64 c.fair,.int .i64 c.size,.int .i64 c.period,.int .i64 c.half,.int .i64 now,u,v,.int .i64 hd]] w fun e w'=>e=.returned (.tuple #[])∧Wr w' x B N (l++hdsB c now hd)∧Chg (fun k=>k=x∨k=B) w w':=by
 have hxl:=h.lt
 obtain⟨W,hW⟩:∃W,w.alloc (.cells #[.int .i64 c.nodes,.int .i64 c.queue,.int .i64 c.limit,.int .i64 c.age,.int .i64 c.fair,.int .i64 c.size,.int .i64 c.period,.int .i64 c.half,.int .i64 now,u,v,.int .i64 hd] 27)=W:=⟨_,rfl⟩
 have bW:Below w.heap.size w W:=by rw [← hW];exact(Below.refl _ _).alloc (Nat.le_refl _) _
 have hzW:W.heap.size=w.heap.size+1:=by rw [← hW];simp
 have hG:W.heap[w.heap.size]?=some (.cells #[.int .i64 c.nodes,.int .i64 c.queue,.int .i64 c.limit,.int .i64 c.age,.int .i64 c.fair,.int .i64 c.size,.int .i64 c.period,.int .i64 c.half,.int .i64 now,u,v,.int .i64 hd] 27 (0,0)):=by rw [← hW];exact heap_alloc_new w _
 have q0:W.cell? ⟨w.heap.size,0,none⟩=some (.int .i64 c.nodes):=cells_at hG rfl
 have q1:W.cell? ⟨w.heap.size,1,none⟩=some (.int .i64 c.queue):=cells_at hG rfl
 have q2:W.cell? ⟨w.heap.size,2,none⟩=some (.int .i64 c.limit):=cells_at hG rfl
 have q3:W.cell? ⟨w.heap.size,3,none⟩=some (.int .i64 c.age):=cells_at hG rfl
 have q4:W.cell? ⟨w.heap.size,4,none⟩=some (.int .i64 c.fair):=cells_at hG rfl
 have q5:W.cell? ⟨w.heap.size,5,none⟩=some (.int .i64 c.size):=cells_at hG rfl
 have q6:W.cell? ⟨w.heap.size,6,none⟩=some (.int .i64 c.period):=cells_at hG rfl
 have q7:W.cell? ⟨w.heap.size,7,none⟩=some (.int .i64 c.half):=cells_at hG rfl
 have q8:W.cell? ⟨w.heap.size,8,none⟩=some (.int .i64 now):=cells_at hG rfl
 have q11:W.cell? ⟨w.heap.size,11,none⟩=some (.int .i64 hd):=cells_at hG rfl
 obtain⟨V,hV⟩:∃V,W.alloc (.cells #[.int .i64 c.nodes,.int .i64 c.queue,.int .i64 c.limit,.int .i64 c.age,.int .i64 c.fair,.int .i64 c.size,.int .i64 c.period,.int .i64 c.half,.int .i64 now,.int .i64 hd] 157)=V:=⟨_,rfl⟩
 have bV:Below W.heap.size W V:=by rw [← hV];exact(Below.refl _ _).alloc (Nat.le_refl _) _
 have hGV:V.heap[w.heap.size+1]?=some (.cells #[.int .i64 c.nodes,.int .i64 c.queue,.int .i64 c.limit,.int .i64 c.age,.int .i64 c.fair,.int .i64 c.size,.int .i64 c.period,.int .i64 c.half,.int .i64 now,.int .i64 hd] 157 (0,0)):=by rw [← hV,←hzW];exact heap_alloc_new W _
 have B2:Below w.heap.size w V:=bW.trans (bV.mono bW.size)
 have hns:=numbers_blk (ns:= [c.nodes,c.queue,c.limit,c.age,c.fair,c.size,c.period,c.half,now,hd]) (q:=10) (c:=10) (h.keep B2) hGV (by omega) rfl (by omega) (by omega)
 have HB:Hid _:=B2
 clear h bW hG bV hGV B2
 go_enter Tryz.func57,Tryz.ntmps57
 go_wp2_with (go_at_call 113;refine hns.mono ?_;rintro e w1 ⟨rfl,hW1,hC1⟩;have HW1:Hid _:=hW1;have HC1:Hid _:=hC1;clear hW1 hC1)
 go_end0
 exact⟨rfl,HW1.out,(Chg.of_below HB.out _).trans HC1.out (fun _ _ e=>e)⟩
set_option maxRecDepth 20000 in
set_option maxHeartbeats 1000000 in
theorem waccount_yes {w:World} {x B N:Nat} {l:List UInt8} (h:Wr w x B N l) (nm:ByteArray) (pa sh us:Int) (hN:l.length+(40+nm.size)≤N):Calls Tryz.prog 59 #[.pointer (some ⟨x,0,none⟩),.agg #[.string nm,.int .i64 pa,.int .i64 sh,.bool true,.int .u64 us]] w fun e w'=>e=.returned (.tuple #[])∧Wr w' x B N (l++acB ⟨nm,pa,sh,true,us⟩)∧Chg (fun k=>k=x∨k=B) w w':=by
 have hxl:=h.lt
 obtain⟨W,hW⟩:∃W,w.alloc (.cells #[.string nm,.int .i64 pa,.int .i64 sh,.bool true,.int .u64 us] 52)=W:=⟨_,rfl⟩
 have bW:Below w.heap.size w W:=by rw [← hW];exact(Below.refl _ _).alloc (Nat.le_refl _) _
 have hzW:W.heap.size=w.heap.size+1:=by rw [← hW];simp
 have hG:W.heap[w.heap.size]?=some (.cells #[.string nm,.int .i64 pa,.int .i64 sh,.bool true,.int .u64 us] 52 (0,0)):=by rw [← hW];exact heap_alloc_new w _
 have q1:W.cell? ⟨w.heap.size,1,none⟩=some (.int .i64 pa):=cells_at hG rfl
 have q2:W.cell? ⟨w.heap.size,2,none⟩=some (.int .i64 sh):=cells_at hG rfl
 have q3:W.cell? ⟨w.heap.size,3,none⟩=some (.bool true):=cells_at hG rfl
 have q4:W.cell? ⟨w.heap.size,4,none⟩=some (.int .u64 us):=cells_at hG rfl
 obtain⟨V,hV⟩:∃V,W.alloc (.cells #[.int .i64 pa,.int .i64 sh,.int .i64 1,.int .i64 (wrap64 us)] 160)=V:=⟨_,rfl⟩
 have bV:Below W.heap.size W V:=by rw [← hV];exact(Below.refl _ _).alloc (Nat.le_refl _) _
 have hGV:V.heap[w.heap.size+1]?=some (.cells #[.int .i64 pa,.int .i64 sh,.int .i64 1,.int .i64 (wrap64 us)] 160 (0,0)):=by rw [← hV,←hzW];exact heap_alloc_new W _
 have hGA:V.heap[w.heap.size]?=some (.cells #[.string nm,.int .i64 pa,.int .i64 sh,.bool true,.int .u64 us] 52 (0,0)):=(bV.block _ (by omega)).trans hG
 have q0:V.cell? ⟨w.heap.size,0,none⟩=some (.string nm):=cells_at hGA rfl
 have B2:Below w.heap.size w V:=bW.trans (bV.mono bW.size)
 have hnum:=number_any (h.keep B2) (nm.size:Int) (by omega)
 have HB:Hid _:=B2
 have HGV:Hid _:=hGV
 have HGA:Hid _:=hGA
 clear h bW hG bV hGV B2 hGA
 go_enter Tryz.func59,Tryz.ntmps59
 go_wp2_with (first
  | (go_at_call 58;refine hnum.mono ?_;rintro e w1 ⟨rfl,hW1,hC1⟩;have k0:w1.cell? ⟨w.heap.size,0,none⟩=some (.string nm):=wk_cell hC1 (by omega) (cells_at HGA.out rfl);have hl1:(l++be8 (nm.size:Int)).length=l.length+8:=(by rw [List.length_append,be8_len]);have htxt:=text_any hW1 nm (by omega);have HC1:Hid _:=hC1;clear hC1 hW1)
  | (go_at_call 56;refine htxt.mono ?_;rintro e w2 ⟨rfl,hW2,hC2⟩;have hl2:(l++be8 (nm.size:Int)++nm.data.toList).length=l.length+8+nm.size:=(by rw [List.length_append,hl1,←Lib.size_eq]);have hns:=numbers_blk (ns:= [pa,sh,1,wrap64 us]) (q:=4) (c:=4) hW2 (wk_blk hC2 (by omega) (wk_blk HC1.out (by omega) HGV.out)) (by omega) rfl (by omega) (by omega);have HC2:Hid _:=hC2;clear hC2 hW2)
  | (go_at_call 113;refine hns.mono ?_;rintro e w3 ⟨rfl,hW3,hC3⟩;have HW3:Hid _:=hW3;have HC3:Hid _:=hC3;clear hW3 hC3))
 go_end0
 have eB:l++be8 (nm.size:Int)++nm.data.toList++numsB [pa,sh,1,wrap64 us]=l++acB ⟨nm,pa,sh,true,us⟩:=by
  have e4:be8 (wrap64 us)=be8 us:=be8_mod (by unfold wrap64;omega)
  unfold acB numsB
  simp [e4]
 rw [← eB]
 exact⟨rfl,HW3.out,(((Chg.of_below HB.out _).trans HC1.out (fun _ _ e=>e)).trans HC2.out (fun _ _ e=>e)).trans HC3.out (fun _ _ e=>e)⟩
set_option maxRecDepth 20000 in
set_option maxHeartbeats 1000000 in
theorem waccount_no {w:World} {x B N:Nat} {l:List UInt8} (h:Wr w x B N l) (nm:ByteArray) (pa sh us:Int) (hN:l.length+(40+nm.size)≤N):Calls Tryz.prog 59 #[.pointer (some ⟨x,0,none⟩),.agg #[.string nm,.int .i64 pa,.int .i64 sh,.bool false,.int .u64 us]] w fun e w'=>e=.returned (.tuple #[])∧Wr w' x B N (l++acB ⟨nm,pa,sh,false,us⟩)∧Chg (fun k=>k=x∨k=B) w w':=by
 have hxl:=h.lt
 obtain⟨W,hW⟩:∃W,w.alloc (.cells #[.string nm,.int .i64 pa,.int .i64 sh,.bool false,.int .u64 us] 52)=W:=⟨_,rfl⟩
 have bW:Below w.heap.size w W:=by rw [← hW];exact(Below.refl _ _).alloc (Nat.le_refl _) _
 have hzW:W.heap.size=w.heap.size+1:=by rw [← hW];simp
 have hG:W.heap[w.heap.size]?=some (.cells #[.string nm,.int .i64 pa,.int .i64 sh,.bool false,.int .u64 us] 52 (0,0)):=by rw [← hW];exact heap_alloc_new w _
 have q1:W.cell? ⟨w.heap.size,1,none⟩=some (.int .i64 pa):=cells_at hG rfl
 have q2:W.cell? ⟨w.heap.size,2,none⟩=some (.int .i64 sh):=cells_at hG rfl
 have q3:W.cell? ⟨w.heap.size,3,none⟩=some (.bool false):=cells_at hG rfl
 have q4:W.cell? ⟨w.heap.size,4,none⟩=some (.int .u64 us):=cells_at hG rfl
 obtain⟨V,hV⟩:∃V,W.alloc (.cells #[.int .i64 pa,.int .i64 sh,.int .i64 0,.int .i64 (wrap64 us)] 160)=V:=⟨_,rfl⟩
 have bV:Below W.heap.size W V:=by rw [← hV];exact(Below.refl _ _).alloc (Nat.le_refl _) _
 have hGV:V.heap[w.heap.size+1]?=some (.cells #[.int .i64 pa,.int .i64 sh,.int .i64 0,.int .i64 (wrap64 us)] 160 (0,0)):=by rw [← hV,←hzW];exact heap_alloc_new W _
 have hGA:V.heap[w.heap.size]?=some (.cells #[.string nm,.int .i64 pa,.int .i64 sh,.bool false,.int .u64 us] 52 (0,0)):=(bV.block _ (by omega)).trans hG
 have q0:V.cell? ⟨w.heap.size,0,none⟩=some (.string nm):=cells_at hGA rfl
 have B2:Below w.heap.size w V:=bW.trans (bV.mono bW.size)
 have hnum:=number_any (h.keep B2) (nm.size:Int) (by omega)
 have HB:Hid _:=B2
 have HGV:Hid _:=hGV
 have HGA:Hid _:=hGA
 clear h bW hG bV hGV B2 hGA
 go_enter Tryz.func59,Tryz.ntmps59
 go_wp2_with (first
  | (go_at_call 58;refine hnum.mono ?_;rintro e w1 ⟨rfl,hW1,hC1⟩;have k0:w1.cell? ⟨w.heap.size,0,none⟩=some (.string nm):=wk_cell hC1 (by omega) (cells_at HGA.out rfl);have hl1:(l++be8 (nm.size:Int)).length=l.length+8:=(by rw [List.length_append,be8_len]);have htxt:=text_any hW1 nm (by omega);have HC1:Hid _:=hC1;clear hC1 hW1)
  | (go_at_call 56;refine htxt.mono ?_;rintro e w2 ⟨rfl,hW2,hC2⟩;have hl2:(l++be8 (nm.size:Int)++nm.data.toList).length=l.length+8+nm.size:=(by rw [List.length_append,hl1,←Lib.size_eq]);have hns:=numbers_blk (ns:= [pa,sh,0,wrap64 us]) (q:=4) (c:=4) hW2 (wk_blk hC2 (by omega) (wk_blk HC1.out (by omega) HGV.out)) (by omega) rfl (by omega) (by omega);have HC2:Hid _:=hC2;clear hC2 hW2)
  | (go_at_call 113;refine hns.mono ?_;rintro e w3 ⟨rfl,hW3,hC3⟩;have HW3:Hid _:=hW3;have HC3:Hid _:=hC3;clear hW3 hC3))
 go_end0
 have eB:l++be8 (nm.size:Int)++nm.data.toList++numsB [pa,sh,0,wrap64 us]=l++acB ⟨nm,pa,sh,false,us⟩:=by
  have e4:be8 (wrap64 us)=be8 us:=be8_mod (by unfold wrap64;omega)
  unfold acB numsB
  simp [e4]
 rw [← eB]
 exact⟨rfl,HW3.out,(((Chg.of_below HB.out _).trans HC1.out (fun _ _ e=>e)).trans HC2.out (fun _ _ e=>e)).trans HC3.out (fun _ _ e=>e)⟩
theorem waccount_any {w:World} {x B N:Nat} {l:List UInt8} (h:Wr w x B N l) (a:Ac) (hN:l.length+(40+a.nm.size)≤N):Calls Tryz.prog 59 #[.pointer (some ⟨x,0,none⟩),.agg #[.string a.nm,.int .i64 a.pa,.int .i64 a.sh,.bool a.cl,.int .u64 a.us]] w fun e w'=>e=.returned (.tuple #[])∧Wr w' x B N (l++acB a)∧Chg (fun k=>k=x∨k=B) w w':=by
 obtain⟨nm,pa,sh,cl,us⟩:=a
 cases cl with
 | true=>exact waccount_yes h nm pa sh us hN
 | false=>exact waccount_no h nm pa sh us hN
set_option maxRecDepth 20000 in
set_option maxHeartbeats 1000000 in
theorem wjob_any {w:World} {x B N:Nat} {l:List UInt8} (h:Wr w x B N l) (j:Jv) {sa:Option Addr} {sc:Nat} (hI:IntsAt w sa j.set) (hk:0<j.set.length→∀g o k,sa=some ⟨g,o,k⟩→g≠x∧g≠B) (hl:j.set.length≤140737488355328) (hN:l.length+(64+j.set.length*8)≤N):Calls Tryz.prog 60 #[.pointer (some ⟨x,0,none⟩),.agg #[.int .i64 j.ac,.int .i64 j.nd,.int .i64 j.lm,.int .i64 j.sb,.int .i64 j.st,.int .i64 j.sr,.int .i64 j.en,.slice sa j.set.length sc]] w fun e w'=>e=.returned (.tuple #[])∧Wr w' x B N (l++jbB j)∧Chg (fun k=>k=x∨k=B) w w':=by
 have hxl:=h.lt
 obtain⟨W,hW⟩:∃W,w.alloc (.cells #[.int .i64 j.ac,.int .i64 j.nd,.int .i64 j.lm,.int .i64 j.sb,.int .i64 j.st,.int .i64 j.sr,.int .i64 j.en,.slice sa j.set.length sc] 55)=W:=⟨_,rfl⟩
 have bW:Below w.heap.size w W:=by rw [← hW];exact(Below.refl _ _).alloc (Nat.le_refl _) _
 have hzW:W.heap.size=w.heap.size+1:=by rw [← hW];simp
 have hG:W.heap[w.heap.size]?=some (.cells #[.int .i64 j.ac,.int .i64 j.nd,.int .i64 j.lm,.int .i64 j.sb,.int .i64 j.st,.int .i64 j.sr,.int .i64 j.en,.slice sa j.set.length sc] 55 (0,0)):=by rw [← hW];exact heap_alloc_new w _
 have q0:W.cell? ⟨w.heap.size,0,none⟩=some (.int .i64 j.ac):=cells_at hG rfl
 have q1:W.cell? ⟨w.heap.size,1,none⟩=some (.int .i64 j.nd):=cells_at hG rfl
 have q2:W.cell? ⟨w.heap.size,2,none⟩=some (.int .i64 j.lm):=cells_at hG rfl
 have q3:W.cell? ⟨w.heap.size,3,none⟩=some (.int .i64 j.sb):=cells_at hG rfl
 have q4:W.cell? ⟨w.heap.size,4,none⟩=some (.int .i64 j.st):=cells_at hG rfl
 have q5:W.cell? ⟨w.heap.size,5,none⟩=some (.int .i64 j.sr):=cells_at hG rfl
 have q6:W.cell? ⟨w.heap.size,6,none⟩=some (.int .i64 j.en):=cells_at hG rfl
 obtain⟨V,hV⟩:∃V,W.alloc (.cells #[.int .i64 j.ac,.int .i64 j.nd,.int .i64 j.lm,.int .i64 j.sb,.int .i64 j.st,.int .i64 j.sr,.int .i64 j.en] 161)=V:=⟨_,rfl⟩
 have bV:Below W.heap.size W V:=by rw [← hV];exact(Below.refl _ _).alloc (Nat.le_refl _) _
 have hGV:V.heap[w.heap.size+1]?=some (.cells #[.int .i64 j.ac,.int .i64 j.nd,.int .i64 j.lm,.int .i64 j.sb,.int .i64 j.st,.int .i64 j.sr,.int .i64 j.en] 161 (0,0)):=by rw [← hV,←hzW];exact heap_alloc_new W _
 have hGA:V.heap[w.heap.size]?=some (.cells #[.int .i64 j.ac,.int .i64 j.nd,.int .i64 j.lm,.int .i64 j.sb,.int .i64 j.st,.int .i64 j.sr,.int .i64 j.en,.slice sa j.set.length sc] 55 (0,0)):=(bV.block _ (by omega)).trans hG
 have B2:Below w.heap.size w V:=bW.trans (bV.mono bW.size)
 have hns:=numbers_blk (ns:= [j.ac,j.nd,j.lm,j.sb,j.st,j.sr,j.en]) (q:=7) (c:=7) (h.keep B2) hGV (by omega) rfl (by omega) (by omega)
 have hI2:=IntsAt.below hI B2
 have HB:Hid _:=B2
 have HGA:Hid _:=hGA
 have HI:Hid _:=hI2
 have HK:Hid _:=hk
 have hel:∀v:List Int,(l++numsB v).length=l.length+v.length*8:=fun v=>by rw [List.length_append,nums_len]
 have HEL:Hid _:=hel
 clear h bW hG bV hGV B2 hGA hI hI2 hk hel
 go_enter Tryz.func60,Tryz.ntmps60
 go_upto_region 3 with(go_at_call 113;refine hns.mono ?_;rintro e w1 ⟨rfl,hW1,hC1⟩;have k7:w1.cell? ⟨w.heap.size,7,none⟩=some (.slice sa j.set.length sc):=wk_cell hC1 (by omega) (cells_at HGA.out rfl);have hl1:=HEL.out [j.ac,j.nd,j.lm,j.sb,j.st,j.sr,j.en];have hnum:=number_any hW1 (j.set.length:Int) (by rw [hl1];simp only [List.length_cons,List.length_nil];omega);have HW1:Hid _:=hW1;have HC1:Hid _:=hC1;clear hC1 hW1)
 go_upto_region 4 with(go_at_call 58;refine hnum.mono ?_;rintro e w2 ⟨rfl,hW2,hC2⟩;clear k7;have k7:w2.cell? ⟨w.heap.size,7,none⟩=some (.slice sa j.set.length sc):=wk_cell hC2 (by omega) (wk_cell HC1.out (by omega) (cells_at HGA.out rfl));have hI2:IntsAt w2 sa j.set:=(by
  obtain⟨g,o,h1,h2⟩:=HI.out
  refine⟨g,o,h1,fun k n hn=>?_⟩
  have h0:0<j.set.length:=(by have:=(List.getElem?_eq_some_iff.1 hn).1;omega)
  have hg:=HK.out h0 g o none (h1 h0)
  exact wk_cell hC2 hg (wk_cell HC1.out hg (h2 k n hn)));have hns2:=numbers_any (c:=sc) hW2 hI2 HK.out (by rw [List.length_append,be8_len,hl1];simp only [List.length_cons,List.length_nil];omega) hl;have HC2:Hid _:=hC2;clear hC2 hW2 hI2)
 go_wp2_with (go_at_call 113;refine hns2.mono ?_;rintro e w3 ⟨rfl,hW3,hC3⟩;have HW3:Hid _:=hW3;have HC3:Hid _:=hC3;clear hW3 hC3)
 go_end0
 have eB:l++numsB [j.ac,j.nd,j.lm,j.sb,j.st,j.sr,j.en]++be8 (j.set.length:Int)++numsB j.set=l++jbB j:=by
  unfold jbB
  simp
 rw [← eB]
 exact⟨rfl,HW3.out,(((Chg.of_below HB.out _).trans HC1.out (fun _ _ e=>e)).trans HC2.out (fun _ _ e=>e)).trans HC3.out (fun _ _ e=>e)⟩
end Go.Proofs.YtceoibfliggalaaGreatDoor
