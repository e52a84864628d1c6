/-
  TEXTS: SpD.
-/
import Derived.Test.YtceoibfliggalaaGreatDoorKr15
import Derived.Test.YtceoibfliggalaaGreatDoorKr14
import Derived.Test.YtceoibfliggalaaGreatDoorKr18
namespace Go.Proofs.YtceoibfliggalaaGreatDoor
open Go.RowKit Wd Tr Cg Lg
def u8s (l:List UInt8):List Value:=l.map fun b=>Value.int .u8 (b.toNat:Int)
theorem u8s_len (l:List UInt8):(u8s l).length=l.length*1:=by simp [u8s]
theorem u8s_one (l:List UInt8):∀u∈u8s l,u.oneCell'=true:=by
 intro u hu
 obtain⟨x,_,rfl⟩:=List.mem_map.1 hu
 rfl
theorem u8s_app (a b:List UInt8):u8s (a++b)=u8s a++u8s b:=by unfold u8s;rw [List.map_append]
def BytAt (W:World) (ao:Option Addr) (r:List UInt8):Prop:=∃g o,(0<r.length→ao=some ⟨g,o,none⟩)∧∀k b,r[k]?=some b→W.cell? ⟨g,o+k,none⟩=some (.int .u8 (b.toNat:Int))
theorem BytAt.below {W W':World} {ao:Option Addr} {r:List UInt8} (h:BytAt W ao r) (b:Below W.heap.size W W'):BytAt W' ao r:=by
 obtain⟨g,o,h1,h2⟩:=h
 exact⟨g,o,h1,fun k u hu=>cellB b (h2 k u hu)⟩
theorem byt_flat {W:World} {ao:Option Addr} {l:List UInt8} (h:BytAt W ao l):∀ad,ao=some ad→∀j u,(u8s l)[j]?=some u→W.cell? (ad.add j)=some u:=by
 intro ad had j u hu
 obtain⟨g,o,h1,h2⟩:=h
 unfold u8s at hu
 rw [List.getElem?_map]at hu
 cases hx:l[j]? with
 | none=>rw [hx]at hu;cases hu
 | some x=>
  rw [hx]at hu
  cases hu
  have hp:0<l.length:=by have:=(List.getElem?_eq_some_iff.1 hx).1;omega
  rw [h1 hp]at had
  cases had
  have:=h2 j x hx
  rwa [Addr.add_lit]
set_option maxRecDepth 20000 in
set_option maxHeartbeats 1000000 in
theorem lendBytes_any {w:World} {ao:Option Addr} {r:List UInt8} {cap:Nat} (hb:BytAt w ao r) (hn:ao=none→r.length=0∧cap=0) (hl:r.length≤140737488351232):
  Calls Tryz.prog 16 #[.slice ao r.length cap] w fun e w'=>∃v,e=.returned v∧w'.ownsRow w.heap.size 5 1 v (r.length+2) (u8s (r++ [165,165]))∧Below w.heap.size w w':=by
 obtain⟨i0,hi0,hz00,hz01,hz02⟩:=info_parts Tryz.infBz
 have HB:Hid (BytAt w ao r):=hb
 have HNN:Hid (ao=none→r.length=0∧cap=0):=hn
 clear hb hn
 obtain⟨VB,hVB⟩:∃v,v=Value.slice ao r.length cap:=⟨_,rfl⟩
 rw [← hVB]
 have HVB:Hid (VB=Value.slice ao r.length cap):=hVB
 clear hVB
 have HU:Hid (u8s (r++ [165,165])=u8s r++u8s [165,165]):=u8s_app _ _
 generalize u8s (r++ [165,165])=U at *
 go_enter Tryz.func16,Tryz.ntmps16
 go_upto_region 2 with fail
 obtain⟨W,hW⟩:∃W,w.alloc (.cells #[] 5)=W:=⟨_,rfl⟩
 have HR:Hid (W.ownsRow w.heap.size 5 1 (.slice (some ⟨w.heap.size,0,none⟩) 0 0) 0 []):=by show World.ownsRow _ _ _ _ _ _ _;rw [← hW];exact World.ownsRow_made w #[] 0 (Nat.le_refl _) (by decide) rfl
 have HBW:Hid (Below w.heap.size w W):=by show Below _ _ _;rw [← hW];exact(Below.refl _ w).alloc (Nat.le_refl _) _
 have HOB:Hid ((Value.slice (some ⟨w.heap.size,0,none⟩) 0 0).ownBlock=some w.heap.size):=rfl
 rw [hW]
 clear hW
 generalize Value.slice (some ⟨w.heap.size,0,none⟩) 0 0=v0 at HR HOB ⊢
 go_upto_region 3 with(at_builtin;refine wpList_append_mv rfl (.tmp 5) (.tmp 6) 35 rfl w.heap.size 5 i0 _ 1 1 Tryz.underlying35 hi0 hz00 hz01 hz02 rfl (by decide) v0 0 [] rfl HR.out ao r.length cap (u8s r) HVB.out HNN.out (u8s_len r) (byt_flat (HB.out.below HBW.out)) (u8s_one r) ?_ ?_ ?_ ?_;exact(Nat.le_trans (m:=140737488351232) (by omega) (by decide));omega;exact HBW.out.size;intro v1 w1 o1 g1 m1;rw [Nat.zero_add,List.nil_append]at o1;have HO1:Hid (w1.ownsRow w.heap.size 5 1 v1 r.length (u8s r)):=o1;have HB1:Hid (Below w.heap.size w w1):=⟨g1.os.trans HBW.out.os,g1.tape.trans HBW.out.tape,g1.output.trans HBW.out.output,Nat.le_trans HBW.out.size g1.size,fun k hk=>(g1.block k (Nat.lt_of_lt_of_le hk HBW.out.size) (fun e=>by rw [HOB.out]at e;cases e;omega)).trans (HBW.out.block k hk)⟩;clear o1 g1 m1)
 obtain⟨W1,hW1⟩:∃W1,w1.alloc (.cells #[.int .u8 165,.int .u8 165] 5)=W1:=⟨_,rfl⟩
 have b1:Below w1.heap.size w1 W1:=by rw [← hW1];exact(Below.refl _ w1).alloc (Nat.le_refl _) _
 have HR1:Hid (W1.ownsRow w.heap.size 5 1 v1 r.length (u8s r)):=row_stand HO1.out (fun g hg=>b1.block g (HO1.out.lt g hg).2)
 have HBW1:Hid (Below w.heap.size w W1):=HB1.out.trans (b1.mono HB1.out.size)
 have HLT:Hid (∀g,v1.ownBlock=some g→w.heap.size≤g):=fun g hg=>(HO1.out.lt g hg).1
 have HCE:Hid (∀ad,some (⟨w1.heap.size,0,none⟩:Addr)=some ad→∀j u,(u8s [165,165])[j]?=some u→W1.cell? (ad.add j)=some u):=by
  intro ad had j u hu
  cases had
  rw [Addr.add_lit,Nat.zero_add,←hW1]
  exact cells_at (heap_alloc_new w1 _) (by rw [show u8s [165,165]= [Value.int .u8 165,Value.int .u8 165]from rfl]at hu;simpa using hu)
 clear b1 HR HOB HO1
 go_wp2_with (at_builtin;refine wpList_append_mv rfl (.tmp 8) (.tmp 9) 35 rfl w.heap.size 5 i0 _ 1 1 Tryz.underlying35 hi0 hz00 hz01 hz02 rfl (by decide) v1 r.length (u8s r) rfl HR1.out (some ⟨w1.heap.size,0,none⟩) 2 2 (u8s [165,165]) rfl (fun e=>by cases e) rfl HCE.out (u8s_one _) ?_ ?_ ?_ ?_;exact(Nat.le_trans (m:=140737488351234) (by omega) (by decide));omega;exact HBW1.out.size;intro v2 w2 o2 g2 m2;rw [← HU.out]at o2;have HO2:Hid (w2.ownsRow w.heap.size 5 1 v2 (r.length+2) U):=o2;have HB2:Hid (Below w.heap.size w w2):=⟨g2.os.trans HBW1.out.os,g2.tape.trans HBW1.out.tape,g2.output.trans HBW1.out.output,Nat.le_trans HBW1.out.size g2.size,fun k hk=>(g2.block k (Nat.lt_of_lt_of_le hk HBW1.out.size) (fun e=>by have:=HLT.out _ e.symm;omega)).trans (HBW1.out.block k hk)⟩;clear o2 g2 m2)
 go_ret
 exact⟨v2,rfl,HO2.out,HB2.out⟩
end Go.Proofs.YtceoibfliggalaaGreatDoor
