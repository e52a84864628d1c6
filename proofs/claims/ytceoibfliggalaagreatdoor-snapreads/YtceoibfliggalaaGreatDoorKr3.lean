/-
  TEXTS: RfW, RefA, RefD, CfA.
-/
import Derived.Test.YtceoibfliggalaaGreatDoorKr2
namespace Go.Proofs.YtceoibfliggalaaGreatDoor
open Go.RowKit Wd
set_option maxHeartbeats 1000000 in
theorem rmul_any (x y:Int) (hx:Word x) (hy:Word y) (w:World):
  Calls Tryz.prog 121 #[.int .u64 x,.int .u64 y] w fun e w'=>e=.returned (.agg #[.int .u64 (hiW (x*y)),.int .u64 (loW (x*y))])∧Below w.heap.size w w':=by
 have mx:=mask32 x hx
 have my:=mask32 y hy
 have e:=school x y
 obtain⟨x0,x1⟩:=hx;obtain⟨y0,y1⟩:=hy
 obtain⟨hh0,hh1⟩:=halves (a:=x / 4294967296) (b:=y / 4294967296) (by omega) (by omega) (by omega) (by omega)
 obtain⟨hl0,hl1⟩:=halves (a:=x / 4294967296) (b:=y % 4294967296) (by omega) (by omega) (by omega) (by omega)
 obtain⟨lh0,lh1⟩:=halves (a:=x % 4294967296) (b:=y / 4294967296) (by omega) (by omega) (by omega) (by omega)
 obtain⟨ll0,ll1⟩:=halves (a:=x % 4294967296) (b:=y % 4294967296) (by omega) (by omega) (by omega) (by omega)
 have m1:=mask32 (x / 4294967296*(y % 4294967296)) ⟨by omega,by omega⟩
 have m2:=mask32 (x % 4294967296*(y / 4294967296)) ⟨by omega,by omega⟩
 have m3:=mask32 (x % 4294967296*(y % 4294967296)) ⟨by omega,by omega⟩
 have eh:x / 4294967296*(y / 4294967296)+x / 4294967296*(y % 4294967296) / 4294967296+x % 4294967296*(y / 4294967296) / 4294967296+(x % 4294967296*(y % 4294967296) / 4294967296+x / 4294967296*(y % 4294967296) % 4294967296+x % 4294967296*(y / 4294967296) % 4294967296) / 4294967296=hiW (x*y):=by
  rw [e];unfold hiW;omega
 have el:IntKind.u64.wrap (IntKind.u64.wrap ((x % 4294967296*(y % 4294967296) / 4294967296+x / 4294967296*(y % 4294967296) % 4294967296+x % 4294967296*(y / 4294967296) % 4294967296)*4294967296)+x % 4294967296*(y % 4294967296) % 4294967296)=loW (x*y):=by
  rw [e,IntKind.wrap_u64,IntKind.wrap_u64];unfold loW;omega
 have EH:Hid _:=eh
 have EL:Hid _:=el
 clear e eh el
 go_enter Tryz.func121,Tryz.ntmps121
 go_wp2
 rw [EH.out,EL.out]
 exact bodyPost_ret (v:=.agg #[.int .u64 (hiW (x*y)),.int .u64 (loW (x*y))]) (by simp [results,Tryz.results121,go_sem]) rfl ⟨rfl,(Below.refl _ _).alloc (Nat.le_refl _) _⟩
end Go.Proofs.YtceoibfliggalaaGreatDoor
namespace Go.Proofs.YtceoibfliggalaaGreatDoor
open Go.RowKit Wd
theorem rof_num (n:Int) (hn:Word n) (w:World):Calls Tryz.prog 120 #[.int .u64 n] w fun e w'=>e=.returned (.agg #[.int .u64 (hiW n),.int .u64 (loW n)])∧Below w.heap.size w w':=by
 rw [(hi_small hn).1,(hi_small hn).2]
 go_enter Tryz.func120,Tryz.ntmps120
 go_wp2
 exact bodyPost_ret (v:=.agg #[.int .u64 0,.int .u64 n]) (by simp [results,Tryz.results120,go_sem]) rfl ⟨rfl,(Below.refl _ _).alloc (Nat.le_refl _) _⟩
end Go.Proofs.YtceoibfliggalaaGreatDoor
namespace Go.Proofs.YtceoibfliggalaaGreatDoor
open Go.RowKit Wd
theorem rgreatest_any (w:World):Calls Tryz.prog 124 #[] w fun e w'=>e=.returned (.agg #[.int .u64 18446744073709551615,.int .u64 18446744073709551615])∧Below w.heap.size w w':=by
 go_enter Tryz.func124,Tryz.ntmps124
 go_wp2
 exact bodyPost_ret (v:=.agg #[.int .u64 18446744073709551615,.int .u64 18446744073709551615]) (by simp [results,Tryz.results124,go_sem]) rfl ⟨rfl,(Below.refl _ _).alloc (Nat.le_refl _) _⟩
set_option maxHeartbeats 1000000 in
theorem rcmp_any (ah al bh bl:Int) (h2:Word al) (h4:Word bl) (w:World):
  Calls Tryz.prog 80 #[.agg #[.int .u64 ah,.int .u64 al],.agg #[.int .u64 bh,.int .u64 bl]] w fun e w'=>
   e=.returned (.int .i64 (cmpV (val ah al) (val bh bl)))∧Below w.heap.size w w':=by
 by_cases h:ah=bh
 ·subst h
  rw [← cmp_lo]
  unfold cmpV
  by_cases l:al<bl
  ·go_enter Tryz.func80,Tryz.ntmps80
   go_wp2
   go_ret
   exact⟨by simp,((Below.refl _ _).alloc (Nat.le_refl _) _).alloc (by simp) _⟩
  ·by_cases q:al=bl
   ·subst q
    go_enter Tryz.func80,Tryz.ntmps80
    go_wp2
    go_ret
    exact⟨by simp,((Below.refl _ _).alloc (Nat.le_refl _) _).alloc (by simp) _⟩
   ·have q':(al==bl)=false:=by simp [q]
    go_enter Tryz.func80,Tryz.ntmps80
    go_wp2
    go_ret
    exact⟨by first | (simp;done) | (simp [q];done) | (simp [l,q];done),((Below.refl _ _).alloc (Nat.le_refl _) _).alloc (by simp) _⟩
 ·rw [← cmp_hi h2 h4 h]
  have k:(ah==bh)=false:=by simp [h]
  unfold cmpV
  by_cases l:ah<bh
  ·go_enter Tryz.func80,Tryz.ntmps80
   go_wp2
   go_ret
   exact⟨by first | (simp;done) | (simp [l];done),((Below.refl _ _).alloc (Nat.le_refl _) _).alloc (by simp) _⟩
  ·go_enter Tryz.func80,Tryz.ntmps80
   go_wp2
   go_ret
   exact⟨by first | (simp;done) | (simp [l,h];done),((Below.refl _ _).alloc (Nat.le_refl _) _).alloc (by simp) _⟩
namespace Wd
theorem add1 {ah al bh bl:Int} (h1:Word ah) (h2:Word al) (h3:Word bh) (h4:Word bl) (c:al+bl<18446744073709551616) (h:ah+bh<18446744073709551616):
  ah+bh=hiW (addV (val ah al) (val bh bl))∧al+bl=loW (addV (val ah al) (val bh bl))∧addB (val ah al) (val bh bl)=true:=by
 obtain⟨e1,e2,e3⟩:=add_yes h1 h2 h3 h4 (by obtain⟨_,_⟩:=h2;obtain⟨_,_⟩:=h4;omega)
 obtain⟨_,_⟩:=h1;obtain⟨_,_⟩:=h2;obtain⟨_,_⟩:=h3;obtain⟨_,_⟩:=h4
 exact⟨by rw [← e1];omega,by rw [← e2];omega,e3⟩
theorem add2 {ah al bh bl:Int} (h1:Word ah) (h2:Word al) (h3:Word bh) (h4:Word bl) (c:18446744073709551616≤al+bl) (h:ah+bh+1<18446744073709551616):
  ah+bh+1=hiW (addV (val ah al) (val bh bl))∧IntKind.u64.wrap (al+bl)=loW (addV (val ah al) (val bh bl))∧addB (val ah al) (val bh bl)=true:=by
 obtain⟨e1,e2,e3⟩:=add_yes h1 h2 h3 h4 (by obtain⟨_,_⟩:=h2;obtain⟨_,_⟩:=h4;omega)
 obtain⟨_,_⟩:=h1;obtain⟨_,_⟩:=h2;obtain⟨_,_⟩:=h3;obtain⟨_,_⟩:=h4
 exact⟨by rw [← e1];omega,by rw [← e2,IntKind.wrap_u64],e3⟩
theorem wrap_lt1 (a b:Int) (h1:Word a) (h2:Word b) (h:18446744073709551616≤a+b):IntKind.u64.wrap (a+b)<a:=by
 obtain⟨_,_⟩:=h1;obtain⟨_,_⟩:=h2;rw [IntKind.wrap_u64];omega
end Wd
set_option maxHeartbeats 1000000 in
theorem radd_any (ah al bh bl:Int) (h1:Word ah) (h2:Word al) (h3:Word bh) (h4:Word bl) (w:World):
  Calls Tryz.prog 123 #[.agg #[.int .u64 ah,.int .u64 al],.agg #[.int .u64 bh,.int .u64 bl]] w fun e w'=>
   e=.returned (.tuple #[.agg #[.int .u64 (hiW (addV (val ah al) (val bh bl))),.int .u64 (loW (addV (val ah al) (val bh bl)))],.bool (addB (val ah al) (val bh bl))])∧Below w.heap.size w w':=by
 by_cases c:al+bl<18446744073709551616
 ·by_cases h:ah+bh<18446744073709551616
  ·obtain ⟨e1,e2,e3⟩:=add1 h1 h2 h3 h4 c h
   rw [← e1,←e2,e3];clear e1 e2 e3
   obtain⟨a1,a2⟩:=h1;obtain⟨b1,b2⟩:=h2;obtain⟨c1,c2⟩:=h3;obtain⟨d1,d2⟩:=h4
   have k:decide (ah≤ah+bh)=true:=by simp;omega
   go_enter Tryz.func123,Tryz.ntmps123
   go_wp2
   exact bodyPost_ret (v:=.tuple #[.agg #[.int .u64 (ah+bh),.int .u64 (al+bl)],.bool true]) (by simp [results,Tryz.results123,go_sem]) rfl ⟨rfl,((((Below.refl _ _).alloc (Nat.le_refl _) _).alloc (by simp) _).alloc (by simp;omega) _).alloc (by simp;omega) _⟩
  ·obtain ⟨e1,e2,e3⟩:=add_no h1 h2 h3 h4 (by obtain⟨_,_⟩:=h2;obtain⟨_,_⟩:=h4;omega)
   rw [← e1,←e2,e3];clear e1 e2 e3
   have k:=wrap_lt1 ah bh h1 h3 (by omega)
   have k':decide (ah≤IntKind.u64.wrap (ah+bh))=false:=by simp;omega
   obtain⟨a1,a2⟩:=h1;obtain⟨b1,b2⟩:=h2;obtain⟨c1,c2⟩:=h3;obtain⟨d1,d2⟩:=h4
   go_enter Tryz.func123,Tryz.ntmps123
   go_wp2_with (go_at_call 124;refine(rgreatest_any _).mono ?_;rintro e w1 ⟨rfl,hb⟩;obtain⟨hc,hf⟩:=bcell hb)
   have hz:=hb.size
   simp at hz
   refine bodyPost_ret (v:=.tuple #[.agg #[.int .u64 18446744073709551615,.int .u64 18446744073709551615],.bool false]) (by simp [results,Tryz.results123,go_sem,hc]) rfl ⟨rfl,?_⟩
   exact(((((((Below.refl _ _).alloc (Nat.le_refl _) _).alloc (by simp) _).alloc (by simp;omega) _).alloc (by simp;omega) _).trans (hb.mono (by simp;omega))).setCell (by simp;omega) _).setCell (by simp;omega) _
 ·have kl:=wrap_lt1 al bl h2 h4 (by omega)
  by_cases h:ah+bh+1<18446744073709551616
  ·obtain ⟨e1,e2,e3⟩:=add2 h1 h2 h3 h4 (by omega) h
   rw [← e1,←e2,e3];clear e1 e2 e3
   obtain⟨a1,a2⟩:=h1;obtain⟨b1,b2⟩:=h2;obtain⟨c1,c2⟩:=h3;obtain⟨d1,d2⟩:=h4
   have k:decide (ah≤ah+bh)=true:=by simp;omega
   have k':decide (0<ah+bh+1)=true:=by simp;omega
   go_enter Tryz.func123,Tryz.ntmps123
   go_wp2
   exact bodyPost_ret (v:=.tuple #[.agg #[.int .u64 (ah+bh+1),.int .u64 (IntKind.u64.wrap (al+bl))],.bool true]) (by simp [results,Tryz.results123,go_sem]) rfl ⟨rfl,((((Below.refl _ _).alloc (Nat.le_refl _) _).alloc (by simp) _).alloc (by simp;omega) _).alloc (by simp;omega) _⟩
  ·obtain ⟨e1,e2,e3⟩:=add_no h1 h2 h3 h4 (by obtain⟨_,_⟩:=h2;obtain⟨_,_⟩:=h4;omega)
   rw [← e1,←e2,e3];clear e1 e2 e3
   by_cases g:ah+bh<18446744073709551616
   ·have k:(decide (0<IntKind.u64.wrap (ah+bh+1)))=false:=by rw [IntKind.wrap_u64];simp;omega
    have k':¬0<IntKind.u64.wrap (ah+bh+1):=by rw [IntKind.wrap_u64];omega
    have k2:decide (ah≤ah+bh)=true:=by obtain⟨_,_⟩:=h3;simp;omega
    obtain⟨a1,a2⟩:=h1;obtain⟨b1,b2⟩:=h2;obtain⟨c1,c2⟩:=h3;obtain⟨d1,d2⟩:=h4
    go_enter Tryz.func123,Tryz.ntmps123
    go_wp2_with (go_at_call 124;refine(rgreatest_any _).mono ?_;rintro e w1 ⟨rfl,hb⟩;obtain⟨hc,hf⟩:=bcell hb)
    have hz:=hb.size
    simp at hz
    refine bodyPost_ret (v:=.tuple #[.agg #[.int .u64 18446744073709551615,.int .u64 18446744073709551615],.bool false]) (by simp [results,Tryz.results123,go_sem,hc]) rfl ⟨rfl,?_⟩
    exact(((((((Below.refl _ _).alloc (Nat.le_refl _) _).alloc (by simp) _).alloc (by simp;omega) _).alloc (by simp;omega) _).trans (hb.mono (by simp;omega))).setCell (by simp;omega) _).setCell (by simp;omega) _
   ·have k:=wrap_lt1 ah bh h1 h3 (by omega)
    have k':decide (ah≤IntKind.u64.wrap (ah+bh))=false:=by simp;omega
    obtain⟨a1,a2⟩:=h1;obtain⟨b1,b2⟩:=h2;obtain⟨c1,c2⟩:=h3;obtain⟨d1,d2⟩:=h4
    go_enter Tryz.func123,Tryz.ntmps123
    go_wp2_with (go_at_call 124;refine(rgreatest_any _).mono ?_;rintro e w1 ⟨rfl,hb⟩;obtain⟨hc,hf⟩:=bcell hb)
    have hz:=hb.size
    simp at hz
    refine bodyPost_ret (v:=.tuple #[.agg #[.int .u64 18446744073709551615,.int .u64 18446744073709551615],.bool false]) (by simp [results,Tryz.results123,go_sem,hc]) rfl ⟨rfl,?_⟩
    exact(((((((Below.refl _ _).alloc (Nat.le_refl _) _).alloc (by simp) _).alloc (by simp;omega) _).alloc (by simp;omega) _).trans (hb.mono (by simp;omega))).setCell (by simp;omega) _).setCell (by simp;omega) _
end Go.Proofs.YtceoibfliggalaaGreatDoor
namespace Go.Proofs.YtceoibfliggalaaGreatDoor
open Go.RowKit Wd
namespace Wd
theorem add_comm' (a b:Int):addV a b=addV b a∧addB a b=addB b a:=by unfold addV addB;rw [Int.add_comm];exact⟨rfl,rfl⟩
end Wd
set_option maxHeartbeats 1000000 in
theorem rtimes_any (ah al b:Int) (h1:Word ah) (h2:Word al) (h3:Word b) (w:World):
  Calls Tryz.prog 78 #[.agg #[.int .u64 ah,.int .u64 al],.int .u64 b] w fun e w'=>
   e=.returned (.tuple #[.agg #[.int .u64 (hiW (timV (val ah al) b)),.int .u64 (loW (timV (val ah al) b))],.bool (timB (val ah al) b)])∧Below w.heap.size w w':=by
 by_cases h:hiW (ah*b)=0
 ·obtain ⟨e1,e3⟩:=tim_yes (al:=al) h
  rw [← e1,←e3,(add_comm' _ _).1,(add_comm' _ _).2];clear e1 e3
  have k2:decide (0<hiW (ah*b))=false:=by simp [h]
  have k3:¬0<hiW (ah*b):=by simp [h]
  have hw0:=word0;have hwl:=lo_word (ah*b);have hwh:=hi_word (mul_num h2 h3);have hwk:=lo_word (al*b)
  clear h
  go_enter Tryz.func78,Tryz.ntmps78
  go_wp2_with fail
  refine(rmul_any al b h2 h3 _).mono ?_
  rintro e w1 ⟨rfl,hb⟩
  have hz:=hb.size
  simp at hz
  have q0:w1.cell? ⟨w.heap.size,0,none⟩=some (.int .u64 ah):=keepC hb (by simp [go_sem])
  have q4:w1.cell? ⟨w.heap.size+1,0,none⟩=some (.int .u64 0):=keepC hb (by simp [go_sem])
  have q5:w1.cell? ⟨w.heap.size+1,1,none⟩=some (.int .u64 0):=keepC hb (by simp [go_sem])
  have f4:w1.frozen? ⟨w.heap.size+1,0,none⟩=false:=by rw [(bcell hb).2 _ _ (by simp)];simp [go_sem]
  have f5:w1.frozen? ⟨w.heap.size+1,1,none⟩=false:=by rw [(bcell hb).2 _ _ (by simp)];simp [go_sem]
  have z0:w.heap.size<w1.heap.size:=by omega
  have z1:w.heap.size+1<w1.heap.size:=by omega
  go_wp2_with fail
  refine(rmul_any ah b h1 h3 _).mono ?_
  rintro e w2 ⟨rfl,hb2⟩
  have hz2:=hb2.size
  simp at hz2
  have r4:=keepC hb2 (allocC _ q4)
  have r5:=keepC hb2 (allocC _ q5)
  have g4:=keepF hb2 (allocC _ q4) (allocF _ _ f4)
  have g5:=keepF hb2 (allocC _ q5) (allocF _ _ f5)
  have r6:w2.cell? ⟨w1.heap.size,0,none⟩=some (.int .u64 (hiW (al*b))):=keepC hb2 (by simp)
  have r7:w2.cell? ⟨w1.heap.size,1,none⟩=some (.int .u64 (loW (al*b))):=keepC hb2 (by simp)
  have y0:w.heap.size<w2.heap.size:=by omega
  have y1:w.heap.size+1<w2.heap.size:=by omega
  have y2:w1.heap.size<w2.heap.size:=by omega
  clear q0 q4 q5 f4 f5 z0
  go_wp2_with fail
  refine(radd_any (hiW (al*b)) (loW (al*b)) (loW (ah*b)) 0 hwh hwk hwl hw0 _).mono ?_
  rintro e w3 ⟨rfl,hb3⟩
  have hz3:=hb3.size
  simp at hz3
  have s4:=keepC hb3 (allocC _ r4)
  have s5:=keepC hb3 (allocC _ r5)
  have t4:=keepF hb3 (allocC _ r4) (allocF _ _ g4)
  have t5:=keepF hb3 (allocC _ r5) (allocF _ _ g5)
  clear r4 r5 g4 g5 r6 r7
  go_wp2
  refine bodyPost_ret (v:=.tuple #[.agg #[.int .u64 (hiW (addV (val (hiW (al*b)) (loW (al*b))) (val (loW (ah*b)) 0))),.int .u64 (loW (addV (val (hiW (al*b)) (loW (al*b))) (val (loW (ah*b)) 0)))],.bool (addB (val (hiW (al*b)) (loW (al*b))) (val (loW (ah*b)) 0))]) (by simp [results,Tryz.results78,go_sem,s4,s5]) rfl ⟨rfl,?_⟩
  exact(((((((Below.refl _ _).alloc (Nat.le_refl _) _).alloc (by simp) _).trans (hb.mono (by simp;omega))).alloc (by omega) _).trans (hb2.mono (by simp;omega))).alloc (by omega) _ |>.trans (hb3.mono (by simp;omega))).setCell (by simp) _ |>.setCell (by simp) _
 ·obtain ⟨e1,e2,e3⟩:=tim_no h1 h2 h3 h
  rw [← e1,←e2,e3];clear e1 e2 e3
  have hpos:0<hiW (ah*b):=by
   have:=hi_word (mul_num h1 h3)
   obtain⟨_,_⟩:=this;omega
  have k2:decide (0<hiW (ah*b))=true:=by simp [hpos]
  clear h
  go_enter Tryz.func78,Tryz.ntmps78
  go_wp2_with fail
  refine(rmul_any al b h2 h3 _).mono ?_
  rintro e w1 ⟨rfl,hb⟩
  have hz:=hb.size
  simp at hz
  have q0:w1.cell? ⟨w.heap.size,0,none⟩=some (.int .u64 ah):=keepC hb (by simp [go_sem])
  have q4:w1.cell? ⟨w.heap.size+1,0,none⟩=some (.int .u64 0):=keepC hb (by simp [go_sem])
  have q5:w1.cell? ⟨w.heap.size+1,1,none⟩=some (.int .u64 0):=keepC hb (by simp [go_sem])
  have f4:w1.frozen? ⟨w.heap.size+1,0,none⟩=false:=by rw [(bcell hb).2 _ _ (by simp)];simp [go_sem]
  have f5:w1.frozen? ⟨w.heap.size+1,1,none⟩=false:=by rw [(bcell hb).2 _ _ (by simp)];simp [go_sem]
  have z0:w.heap.size<w1.heap.size:=by omega
  have z1:w.heap.size+1<w1.heap.size:=by omega
  go_wp2_with fail
  refine(rmul_any ah b h1 h3 _).mono ?_
  rintro e w2 ⟨rfl,hb2⟩
  have hz2:=hb2.size
  simp at hz2
  have r4:=keepC hb2 (allocC _ q4)
  have r5:=keepC hb2 (allocC _ q5)
  have g4:=keepF hb2 (allocC _ q4) (allocF _ _ f4)
  have g5:=keepF hb2 (allocC _ q5) (allocF _ _ f5)
  have y1:w.heap.size+1<w2.heap.size:=by omega
  clear q0 q4 q5 f4 f5 z0
  go_wp2_with fail
  refine(rgreatest_any _).mono ?_
  rintro e w3 ⟨rfl,hb3⟩
  have hz3:=hb3.size
  simp at hz3
  have s4:=keepC hb3 (allocC _ r4)
  have s5:=keepC hb3 (allocC _ r5)
  have t4:=keepF hb3 (allocC _ r4) (allocF _ _ g4)
  have t5:=keepF hb3 (allocC _ r5) (allocF _ _ g5)
  clear r4 r5 g4 g5
  go_wp2
  refine bodyPost_ret (v:=.tuple #[.agg #[.int .u64 18446744073709551615,.int .u64 18446744073709551615],.bool false]) (by simp [results,Tryz.results78,go_sem,s4,s5]) rfl ⟨rfl,?_⟩
  exact(((((((Below.refl _ _).alloc (Nat.le_refl _) _).alloc (by simp) _).trans (hb.mono (by simp;omega))).alloc (by omega) _).trans (hb2.mono (by simp;omega))).alloc (by omega) _ |>.trans (hb3.mono (by simp;omega))).setCell (by simp) _ |>.setCell (by simp) _
end Go.Proofs.YtceoibfliggalaaGreatDoor
namespace Go.Proofs.YtceoibfliggalaaGreatDoor
open Go.RowKit Wd Cg
def cfV (c:Cf):Value:=.agg #[.int .i64 c.nodes,.int .i64 c.queue,.int .i64 c.limit,.int .i64 c.age,.int .i64 c.fair,.int .i64 c.size,.int .i64 c.period,.int .i64 c.half]
def inB (n a b:Int):Bool:=decide (a≤n)&&decide (n≤b)
theorem rwithin_any (n a b:Int) (w:World):Calls Tryz.prog 117 #[.int .i64 n,.int .i64 a,.int .i64 b] w fun e w'=>e=.returned (.bool (inB n a b))∧w'=w:=by
 unfold inB
 by_cases h1:a≤n
 ·rw [decide_eq_true h1]
  by_cases h2:n≤b
  ·rw [decide_eq_true h2]
   go_enter Tryz.func117,Tryz.ntmps117
   go_wp2
   go_ret
   exact⟨rfl,rfl⟩
  ·rw [decide_eq_false h2]
   go_enter Tryz.func117,Tryz.ntmps117
   go_wp2
   go_ret
   exact⟨rfl,rfl⟩
 ·rw [decide_eq_false h1]
  go_enter Tryz.func117,Tryz.ntmps117
  go_wp2
  go_ret
  exact⟨rfl,rfl⟩
theorem rup_any {a b:Int} (h0:0≤a) (h1:1≤b) (h2:a+b<9223372036854775808) (w:World):Calls Tryz.prog 156 #[.int .i64 a,.int .i64 b] w fun e w'=>e=.returned (.int .i64 (upZ a b))∧w'=w:=by
 have e1:Int.tdiv (a+b - 1) b=upZ a b:=Int.tdiv_eq_ediv_of_nonneg (by omega)
 have e2:upZ a b≤a+b - 1:=Int.ediv_le_self _ (by omega)
 have e3:0≤upZ a b:=Int.ediv_nonneg (by omega) (by omega)
 have w1:wrap64 (a+b)=a+b:=by unfold wrap64;omega
 have w2:wrap64 (a+b - 1)=a+b - 1:=by unfold wrap64;omega
 have w3:wrap64 (upZ a b)=upZ a b:=by unfold wrap64;omega
 have nz:¬b=0:=by omega
 go_enter Tryz.func156,Tryz.ntmps156
 go_wp2
 go_ret
 exact⟨by simp [*],rfl⟩
theorem rexp_any {p h:Int} (hp:1≤p) (hp':p≤1048576) (hh:1≤h) (hh':h≤1073741824) (w:World):
  Calls Tryz.prog 155 #[.int .i64 p,.int .i64 h] w fun e w'=>e=.returned (.int .u64 (p*4294967296 / h))∧w'=w:=by
 have e1:IntKind.u64.wrap p=p:=by rw [IntKind.wrap_u64];omega
 have e2:IntKind.u64.wrap h=h:=by rw [IntKind.wrap_u64];omega
 have e3:IntKind.u64.wrap (p*4294967296)=p*4294967296:=by rw [IntKind.wrap_u64];omega
 have e4:0≤p*4294967296 / h:=Int.ediv_nonneg (by omega) (by omega)
 have e5:p*4294967296 / h≤p*4294967296:=Int.ediv_le_self _ (by omega)
 have e6:IntKind.u64.wrap (p*4294967296 / h)=p*4294967296 / h:=by rw [IntKind.wrap_u64];omega
 have e7:¬h=0:=by omega
 go_enter Tryz.func155,Tryz.ntmps155
 go_wp2
 go_ret
 exact⟨by simp [*],rfl⟩
def rngB (c:Cf):Bool:=inB c.nodes 1 256&&inB c.queue 1 128&&inB c.limit 1 1048576&&inB c.age 1 1048576&&inB c.fair 0 1048576&&inB c.size 0 1048576&&inB c.period 1 1048576&&inB c.half 1 1073741824
theorem rng_iff (c:Cf):rngB c=true↔Rng c:=by
 unfold rngB inB
 simp only [Bool.and_eq_true,decide_eq_true_eq]
 constructor
 ·rintro ⟨⟨⟨⟨⟨⟨⟨⟨_,_⟩,_,_⟩,_,_⟩,_,_⟩,_,_⟩,_,_⟩,_,_⟩,_,_⟩
  constructor<;>assumption
 ·rintro ⟨_,_,_,_,_,_,_,_,_,_,_,_,_,_,_,_⟩
  refine⟨⟨⟨⟨⟨⟨⟨⟨?_,?_⟩,?_,?_⟩,?_,?_⟩,?_,?_⟩,?_,?_⟩,?_,?_⟩,?_,?_⟩,?_,?_⟩<;>assumption
set_option maxHeartbeats 4000000 in
theorem rranges_ints (x0 x1 x2 x3 x4 x5 x6 x7:Int) (w:World):Calls Tryz.prog 75 #[.agg #[.int .i64 x0,.int .i64 x1,.int .i64 x2,.int .i64 x3,.int .i64 x4,.int .i64 x5,.int .i64 x6,.int .i64 x7]] w fun e w'=>
  e=.returned (.bool (inB x0 1 256&&inB x1 1 128&&inB x2 1 1048576&&inB x3 1 1048576&&inB x4 0 1048576&&inB x5 0 1048576&&inB x6 1 1048576&&inB x7 1 1073741824))∧Below w.heap.size w w':=by
 cases b0:inB x0 1 256
 ·cases b3:inB x3 1 1048576
  ·go_enter Tryz.func75,Tryz.ntmps75
   go_wp2_with fail
   refine(rwithin_any x0 1 256 _).mono ?_
   rw [b0]
   rintro e w0 ⟨rfl,rfl⟩
   go_wp2_with fail
   refine(rwithin_any x3 1 1048576 _).mono ?_
   rw [b3]
   rintro e w3 ⟨rfl,rfl⟩
   go_wp2
   go_ret
   exact⟨rfl,(Below.refl _ _).alloc (Nat.le_refl _) _⟩
  ·cases b4:inB x4 0 1048576
   ·go_enter Tryz.func75,Tryz.ntmps75
    go_wp2_with fail
    refine(rwithin_any x0 1 256 _).mono ?_
    rw [b0]
    rintro e w0 ⟨rfl,rfl⟩
    go_wp2_with fail
    refine(rwithin_any x3 1 1048576 _).mono ?_
    rw [b3]
    rintro e w3 ⟨rfl,rfl⟩
    go_wp2_with fail
    refine(rwithin_any x4 0 1048576 _).mono ?_
    rw [b4]
    rintro e w4 ⟨rfl,rfl⟩
    go_wp2
    go_ret
    exact⟨rfl,(Below.refl _ _).alloc (Nat.le_refl _) _⟩
   ·cases b5:inB x5 0 1048576
    ·go_enter Tryz.func75,Tryz.ntmps75
     go_wp2_with fail
     refine(rwithin_any x0 1 256 _).mono ?_
     rw [b0]
     rintro e w0 ⟨rfl,rfl⟩
     go_wp2_with fail
     refine(rwithin_any x3 1 1048576 _).mono ?_
     rw [b3]
     rintro e w3 ⟨rfl,rfl⟩
     go_wp2_with fail
     refine(rwithin_any x4 0 1048576 _).mono ?_
     rw [b4]
     rintro e w4 ⟨rfl,rfl⟩
     go_wp2_with fail
     refine(rwithin_any x5 0 1048576 _).mono ?_
     rw [b5]
     rintro e w5 ⟨rfl,rfl⟩
     go_wp2
     go_ret
     exact⟨rfl,(Below.refl _ _).alloc (Nat.le_refl _) _⟩
    ·go_enter Tryz.func75,Tryz.ntmps75
     go_wp2_with fail
     refine(rwithin_any x0 1 256 _).mono ?_
     rw [b0]
     rintro e w0 ⟨rfl,rfl⟩
     go_wp2_with fail
     refine(rwithin_any x3 1 1048576 _).mono ?_
     rw [b3]
     rintro e w3 ⟨rfl,rfl⟩
     go_wp2_with fail
     refine(rwithin_any x4 0 1048576 _).mono ?_
     rw [b4]
     rintro e w4 ⟨rfl,rfl⟩
     go_wp2_with fail
     refine(rwithin_any x5 0 1048576 _).mono ?_
     rw [b5]
     rintro e w5 ⟨rfl,rfl⟩
     go_wp2
     go_ret
     exact⟨rfl,(Below.refl _ _).alloc (Nat.le_refl _) _⟩
 ·cases b1:inB x1 1 128
  ·cases b3:inB x3 1 1048576
   ·go_enter Tryz.func75,Tryz.ntmps75
    go_wp2_with fail
    refine(rwithin_any x0 1 256 _).mono ?_
    rw [b0]
    rintro e w0 ⟨rfl,rfl⟩
    go_wp2_with fail
    refine(rwithin_any x1 1 128 _).mono ?_
    rw [b1]
    rintro e w1 ⟨rfl,rfl⟩
    go_wp2_with fail
    refine(rwithin_any x3 1 1048576 _).mono ?_
    rw [b3]
    rintro e w3 ⟨rfl,rfl⟩
    go_wp2
    go_ret
    exact⟨rfl,(Below.refl _ _).alloc (Nat.le_refl _) _⟩
   ·cases b4:inB x4 0 1048576
    ·go_enter Tryz.func75,Tryz.ntmps75
     go_wp2_with fail
     refine(rwithin_any x0 1 256 _).mono ?_
     rw [b0]
     rintro e w0 ⟨rfl,rfl⟩
     go_wp2_with fail
     refine(rwithin_any x1 1 128 _).mono ?_
     rw [b1]
     rintro e w1 ⟨rfl,rfl⟩
     go_wp2_with fail
     refine(rwithin_any x3 1 1048576 _).mono ?_
     rw [b3]
     rintro e w3 ⟨rfl,rfl⟩
     go_wp2_with fail
     refine(rwithin_any x4 0 1048576 _).mono ?_
     rw [b4]
     rintro e w4 ⟨rfl,rfl⟩
     go_wp2
     go_ret
     exact⟨rfl,(Below.refl _ _).alloc (Nat.le_refl _) _⟩
    ·cases b5:inB x5 0 1048576
     ·go_enter Tryz.func75,Tryz.ntmps75
      go_wp2_with fail
      refine(rwithin_any x0 1 256 _).mono ?_
      rw [b0]
      rintro e w0 ⟨rfl,rfl⟩
      go_wp2_with fail
      refine(rwithin_any x1 1 128 _).mono ?_
      rw [b1]
      rintro e w1 ⟨rfl,rfl⟩
      go_wp2_with fail
      refine(rwithin_any x3 1 1048576 _).mono ?_
      rw [b3]
      rintro e w3 ⟨rfl,rfl⟩
      go_wp2_with fail
      refine(rwithin_any x4 0 1048576 _).mono ?_
      rw [b4]
      rintro e w4 ⟨rfl,rfl⟩
      go_wp2_with fail
      refine(rwithin_any x5 0 1048576 _).mono ?_
      rw [b5]
      rintro e w5 ⟨rfl,rfl⟩
      go_wp2
      go_ret
      exact⟨rfl,(Below.refl _ _).alloc (Nat.le_refl _) _⟩
     ·go_enter Tryz.func75,Tryz.ntmps75
      go_wp2_with fail
      refine(rwithin_any x0 1 256 _).mono ?_
      rw [b0]
      rintro e w0 ⟨rfl,rfl⟩
      go_wp2_with fail
      refine(rwithin_any x1 1 128 _).mono ?_
      rw [b1]
      rintro e w1 ⟨rfl,rfl⟩
      go_wp2_with fail
      refine(rwithin_any x3 1 1048576 _).mono ?_
      rw [b3]
      rintro e w3 ⟨rfl,rfl⟩
      go_wp2_with fail
      refine(rwithin_any x4 0 1048576 _).mono ?_
      rw [b4]
      rintro e w4 ⟨rfl,rfl⟩
      go_wp2_with fail
      refine(rwithin_any x5 0 1048576 _).mono ?_
      rw [b5]
      rintro e w5 ⟨rfl,rfl⟩
      go_wp2
      go_ret
      exact⟨rfl,(Below.refl _ _).alloc (Nat.le_refl _) _⟩
  ·cases b2:inB x2 1 1048576
   ·cases b3:inB x3 1 1048576
    ·go_enter Tryz.func75,Tryz.ntmps75
     go_wp2_with fail
     refine(rwithin_any x0 1 256 _).mono ?_
     rw [b0]
     rintro e w0 ⟨rfl,rfl⟩
     go_wp2_with fail
     refine(rwithin_any x1 1 128 _).mono ?_
     rw [b1]
     rintro e w1 ⟨rfl,rfl⟩
     go_wp2_with fail
     refine(rwithin_any x2 1 1048576 _).mono ?_
     rw [b2]
     rintro e w2 ⟨rfl,rfl⟩
     go_wp2_with fail
     refine(rwithin_any x3 1 1048576 _).mono ?_
     rw [b3]
     rintro e w3 ⟨rfl,rfl⟩
     go_wp2
     go_ret
     exact⟨rfl,(Below.refl _ _).alloc (Nat.le_refl _) _⟩
    ·cases b4:inB x4 0 1048576
     ·go_enter Tryz.func75,Tryz.ntmps75
      go_wp2_with fail
      refine(rwithin_any x0 1 256 _).mono ?_
      rw [b0]
      rintro e w0 ⟨rfl,rfl⟩
      go_wp2_with fail
      refine(rwithin_any x1 1 128 _).mono ?_
      rw [b1]
      rintro e w1 ⟨rfl,rfl⟩
      go_wp2_with fail
      refine(rwithin_any x2 1 1048576 _).mono ?_
      rw [b2]
      rintro e w2 ⟨rfl,rfl⟩
      go_wp2_with fail
      refine(rwithin_any x3 1 1048576 _).mono ?_
      rw [b3]
      rintro e w3 ⟨rfl,rfl⟩
      go_wp2_with fail
      refine(rwithin_any x4 0 1048576 _).mono ?_
      rw [b4]
      rintro e w4 ⟨rfl,rfl⟩
      go_wp2
      go_ret
      exact⟨rfl,(Below.refl _ _).alloc (Nat.le_refl _) _⟩
     ·cases b5:inB x5 0 1048576
      ·go_enter Tryz.func75,Tryz.ntmps75
       go_wp2_with fail
       refine(rwithin_any x0 1 256 _).mono ?_
       rw [b0]
       rintro e w0 ⟨rfl,rfl⟩
       go_wp2_with fail
       refine(rwithin_any x1 1 128 _).mono ?_
       rw [b1]
       rintro e w1 ⟨rfl,rfl⟩
       go_wp2_with fail
       refine(rwithin_any x2 1 1048576 _).mono ?_
       rw [b2]
       rintro e w2 ⟨rfl,rfl⟩
       go_wp2_with fail
       refine(rwithin_any x3 1 1048576 _).mono ?_
       rw [b3]
       rintro e w3 ⟨rfl,rfl⟩
       go_wp2_with fail
       refine(rwithin_any x4 0 1048576 _).mono ?_
       rw [b4]
       rintro e w4 ⟨rfl,rfl⟩
       go_wp2_with fail
       refine(rwithin_any x5 0 1048576 _).mono ?_
       rw [b5]
       rintro e w5 ⟨rfl,rfl⟩
       go_wp2
       go_ret
       exact⟨rfl,(Below.refl _ _).alloc (Nat.le_refl _) _⟩
      ·go_enter Tryz.func75,Tryz.ntmps75
       go_wp2_with fail
       refine(rwithin_any x0 1 256 _).mono ?_
       rw [b0]
       rintro e w0 ⟨rfl,rfl⟩
       go_wp2_with fail
       refine(rwithin_any x1 1 128 _).mono ?_
       rw [b1]
       rintro e w1 ⟨rfl,rfl⟩
       go_wp2_with fail
       refine(rwithin_any x2 1 1048576 _).mono ?_
       rw [b2]
       rintro e w2 ⟨rfl,rfl⟩
       go_wp2_with fail
       refine(rwithin_any x3 1 1048576 _).mono ?_
       rw [b3]
       rintro e w3 ⟨rfl,rfl⟩
       go_wp2_with fail
       refine(rwithin_any x4 0 1048576 _).mono ?_
       rw [b4]
       rintro e w4 ⟨rfl,rfl⟩
       go_wp2_with fail
       refine(rwithin_any x5 0 1048576 _).mono ?_
       rw [b5]
       rintro e w5 ⟨rfl,rfl⟩
       go_wp2
       go_ret
       exact⟨rfl,(Below.refl _ _).alloc (Nat.le_refl _) _⟩
   ·cases b3:inB x3 1 1048576
    ·go_enter Tryz.func75,Tryz.ntmps75
     go_wp2_with fail
     refine(rwithin_any x0 1 256 _).mono ?_
     rw [b0]
     rintro e w0 ⟨rfl,rfl⟩
     go_wp2_with fail
     refine(rwithin_any x1 1 128 _).mono ?_
     rw [b1]
     rintro e w1 ⟨rfl,rfl⟩
     go_wp2_with fail
     refine(rwithin_any x2 1 1048576 _).mono ?_
     rw [b2]
     rintro e w2 ⟨rfl,rfl⟩
     go_wp2_with fail
     refine(rwithin_any x3 1 1048576 _).mono ?_
     rw [b3]
     rintro e w3 ⟨rfl,rfl⟩
     go_wp2
     go_ret
     exact⟨rfl,(Below.refl _ _).alloc (Nat.le_refl _) _⟩
    ·cases b4:inB x4 0 1048576
     ·go_enter Tryz.func75,Tryz.ntmps75
      go_wp2_with fail
      refine(rwithin_any x0 1 256 _).mono ?_
      rw [b0]
      rintro e w0 ⟨rfl,rfl⟩
      go_wp2_with fail
      refine(rwithin_any x1 1 128 _).mono ?_
      rw [b1]
      rintro e w1 ⟨rfl,rfl⟩
      go_wp2_with fail
      refine(rwithin_any x2 1 1048576 _).mono ?_
      rw [b2]
      rintro e w2 ⟨rfl,rfl⟩
      go_wp2_with fail
      refine(rwithin_any x3 1 1048576 _).mono ?_
      rw [b3]
      rintro e w3 ⟨rfl,rfl⟩
      go_wp2_with fail
      refine(rwithin_any x4 0 1048576 _).mono ?_
      rw [b4]
      rintro e w4 ⟨rfl,rfl⟩
      go_wp2
      go_ret
      exact⟨rfl,(Below.refl _ _).alloc (Nat.le_refl _) _⟩
     ·cases b5:inB x5 0 1048576
      ·go_enter Tryz.func75,Tryz.ntmps75
       go_wp2_with fail
       refine(rwithin_any x0 1 256 _).mono ?_
       rw [b0]
       rintro e w0 ⟨rfl,rfl⟩
       go_wp2_with fail
       refine(rwithin_any x1 1 128 _).mono ?_
       rw [b1]
       rintro e w1 ⟨rfl,rfl⟩
       go_wp2_with fail
       refine(rwithin_any x2 1 1048576 _).mono ?_
       rw [b2]
       rintro e w2 ⟨rfl,rfl⟩
       go_wp2_with fail
       refine(rwithin_any x3 1 1048576 _).mono ?_
       rw [b3]
       rintro e w3 ⟨rfl,rfl⟩
       go_wp2_with fail
       refine(rwithin_any x4 0 1048576 _).mono ?_
       rw [b4]
       rintro e w4 ⟨rfl,rfl⟩
       go_wp2_with fail
       refine(rwithin_any x5 0 1048576 _).mono ?_
       rw [b5]
       rintro e w5 ⟨rfl,rfl⟩
       go_wp2
       go_ret
       exact⟨rfl,(Below.refl _ _).alloc (Nat.le_refl _) _⟩
      ·cases b6:inB x6 1 1048576
       ·go_enter Tryz.func75,Tryz.ntmps75
        go_wp2_with fail
        refine(rwithin_any x0 1 256 _).mono ?_
        rw [b0]
        rintro e w0 ⟨rfl,rfl⟩
        go_wp2_with fail
        refine(rwithin_any x1 1 128 _).mono ?_
        rw [b1]
        rintro e w1 ⟨rfl,rfl⟩
        go_wp2_with fail
        refine(rwithin_any x2 1 1048576 _).mono ?_
        rw [b2]
        rintro e w2 ⟨rfl,rfl⟩
        go_wp2_with fail
        refine(rwithin_any x3 1 1048576 _).mono ?_
        rw [b3]
        rintro e w3 ⟨rfl,rfl⟩
        go_wp2_with fail
        refine(rwithin_any x4 0 1048576 _).mono ?_
        rw [b4]
        rintro e w4 ⟨rfl,rfl⟩
        go_wp2_with fail
        refine(rwithin_any x5 0 1048576 _).mono ?_
        rw [b5]
        rintro e w5 ⟨rfl,rfl⟩
        go_wp2_with fail
        refine(rwithin_any x6 1 1048576 _).mono ?_
        rw [b6]
        rintro e w6 ⟨rfl,rfl⟩
        go_wp2
        go_ret
        exact⟨rfl,(Below.refl _ _).alloc (Nat.le_refl _) _⟩
       ·cases b7:inB x7 1 1073741824
        ·go_enter Tryz.func75,Tryz.ntmps75
         go_wp2_with fail
         refine(rwithin_any x0 1 256 _).mono ?_
         rw [b0]
         rintro e w0 ⟨rfl,rfl⟩
         go_wp2_with fail
         refine(rwithin_any x1 1 128 _).mono ?_
         rw [b1]
         rintro e w1 ⟨rfl,rfl⟩
         go_wp2_with fail
         refine(rwithin_any x2 1 1048576 _).mono ?_
         rw [b2]
         rintro e w2 ⟨rfl,rfl⟩
         go_wp2_with fail
         refine(rwithin_any x3 1 1048576 _).mono ?_
         rw [b3]
         rintro e w3 ⟨rfl,rfl⟩
         go_wp2_with fail
         refine(rwithin_any x4 0 1048576 _).mono ?_
         rw [b4]
         rintro e w4 ⟨rfl,rfl⟩
         go_wp2_with fail
         refine(rwithin_any x5 0 1048576 _).mono ?_
         rw [b5]
         rintro e w5 ⟨rfl,rfl⟩
         go_wp2_with fail
         refine(rwithin_any x6 1 1048576 _).mono ?_
         rw [b6]
         rintro e w6 ⟨rfl,rfl⟩
         go_wp2_with fail
         refine(rwithin_any x7 1 1073741824 _).mono ?_
         rw [b7]
         rintro e w7 ⟨rfl,rfl⟩
         go_wp2
         go_ret
         exact⟨rfl,(Below.refl _ _).alloc (Nat.le_refl _) _⟩
        ·go_enter Tryz.func75,Tryz.ntmps75
         go_wp2_with fail
         refine(rwithin_any x0 1 256 _).mono ?_
         rw [b0]
         rintro e w0 ⟨rfl,rfl⟩
         go_wp2_with fail
         refine(rwithin_any x1 1 128 _).mono ?_
         rw [b1]
         rintro e w1 ⟨rfl,rfl⟩
         go_wp2_with fail
         refine(rwithin_any x2 1 1048576 _).mono ?_
         rw [b2]
         rintro e w2 ⟨rfl,rfl⟩
         go_wp2_with fail
         refine(rwithin_any x3 1 1048576 _).mono ?_
         rw [b3]
         rintro e w3 ⟨rfl,rfl⟩
         go_wp2_with fail
         refine(rwithin_any x4 0 1048576 _).mono ?_
         rw [b4]
         rintro e w4 ⟨rfl,rfl⟩
         go_wp2_with fail
         refine(rwithin_any x5 0 1048576 _).mono ?_
         rw [b5]
         rintro e w5 ⟨rfl,rfl⟩
         go_wp2_with fail
         refine(rwithin_any x6 1 1048576 _).mono ?_
         rw [b6]
         rintro e w6 ⟨rfl,rfl⟩
         go_wp2_with fail
         refine(rwithin_any x7 1 1073741824 _).mono ?_
         rw [b7]
         rintro e w7 ⟨rfl,rfl⟩
         go_wp2
         go_ret
         exact⟨rfl,(Below.refl _ _).alloc (Nat.le_refl _) _⟩
theorem rranges_any (c:Cf) (w:World):Calls Tryz.prog 75 #[cfV c] w fun e w'=>e=.returned (.bool (rngB c))∧Below w.heap.size w w':=
 rranges_ints _ _ _ _ _ _ _ _ w
end Go.Proofs.YtceoibfliggalaaGreatDoor
