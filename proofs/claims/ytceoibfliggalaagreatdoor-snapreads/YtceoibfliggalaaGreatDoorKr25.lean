/-
  TEXTS: CpA, CpB, CpC, CpD, CpE.
-/
import Derived.Test.YtceoibfliggalaaGreatDoorKr8
import Derived.Test.YtceoibfliggalaaGreatDoorKr23
import Derived.Deep.CutBlock
import Derived.Deep.DeepCutAuto
import Derived.Deep.LoopGhost
import Derived.Laws.ByValue
namespace Go.Proofs.YtceoibfliggalaaGreatDoor
open Go.RowKit Wd Cg
theorem St.new4 (w:World) (c:Cf):St w w.heap.size c (w.alloc (.cells #[.int .i64 c.nodes,.int .i64 c.queue,.int .i64 c.limit,.int .i64 c.age,.int .i64 c.fair,.int .i64 c.size,.int .i64 c.period,.int .i64 c.half] 118)):=
 ⟨by simp,by simp,by simp,by simp,by simp,by simp,by simp,by simp,(Below.refl _ _).alloc (Nat.le_refl _) _,by simp⟩
set_option maxHeartbeats 1000000 in
theorem pcharge_any {c:Cf} (r:Rng c) (w:World):Calls Tryz.prog 157 #[cfV c] w fun e w'=>e=.returned (.int .i64 (cZ c))∧Below w.heap.size w w':=by
 have hb:=c_box r
 have e1:wrap64 (c.nodes*c.period)=cZ c:=by
  have h:cZ c=c.nodes*c.period:=rfl
  rw [← h]
  unfold wrap64
  omega
 unfold cfV
 go_enter Tryz.func157,Tryz.ntmps157
 go_wp2
 go_ret
 exact⟨by simp [e1],(Below.refl _ _).alloc (Nat.le_refl _) _⟩
set_option maxHeartbeats 1000000 in
theorem pweight_any {c:Cf} (r:Rng c) (w:World):Calls Tryz.prog 130 #[cfV c] w fun e w'=>e=.returned (.int .i64 (aheadZ c))∧Below w.heap.size w w':=by
 have hb:=ahead_box r
 have hf:=r.f0
 have hf1:=r.f1
 have e1:wrap64 (c.size*c.nodes)=c.size*c.nodes:=by unfold wrap64;omega
 have e2:wrap64 (c.fair+c.size*c.nodes)=aheadZ c:=by
  have h:aheadZ c=c.fair+c.size*c.nodes:=rfl
  rw [← h]
  unfold wrap64
  omega
 unfold cfV
 go_enter Tryz.func130,Tryz.ntmps130
 go_wp2
 go_ret
 exact⟨rfl,(Below.refl _ _).alloc (Nat.le_refl _) _⟩
set_option maxHeartbeats 1000000 in
theorem plead_any {c:Cf} (r:Rng c) (w:World):Calls Tryz.prog 176 #[cfV c] w fun e w'=>e=.returned (.int .i64 (leadZ c))∧Below w.heap.size w w':=by
 have hb:=ahead_box r
 have hl:=lead_box r
 have ha:=r.a0
 have e3:IntKind.i64.wrap (Int.tdiv (aheadZ c) c.age)=leadZ c:=by
  rw [show Int.tdiv (aheadZ c) c.age=leadZ c from Int.tdiv_eq_ediv_of_nonneg (by omega),IntKind.wrap_i64]
  omega
 have nz:¬c.age=0:=by omega
 have cW:=pweight_any r
 clear hb hl ha
 generalize aheadZ c=A0 at *
 generalize leadZ c=L0 at *
 unfold cfV at *
 have HS:Hid (St w w.heap.size c (w.alloc (.cells #[.int .i64 c.nodes,.int .i64 c.queue,.int .i64 c.limit,.int .i64 c.age,.int .i64 c.fair,.int .i64 c.size,.int .i64 c.period,.int .i64 c.half] 118)).drew):=keepW (St.new4 w c) ((Below.refl _ _).drew)
 go_enter Tryz.func176,Tryz.ntmps176
 go_upto_region 1 with fail
 go_region_held3 (fun x=>x.cell? ⟨w.heap.size,0,none⟩=some (.int .i64 c.nodes)∧x.cell? ⟨w.heap.size,1,none⟩=some (.int .i64 c.queue)∧x.cell? ⟨w.heap.size,2,none⟩=some (.int .i64 c.limit)∧x.cell? ⟨w.heap.size,3,none⟩=some (.int .i64 c.age)∧x.cell? ⟨w.heap.size,4,none⟩=some (.int .i64 c.fair)∧x.cell? ⟨w.heap.size,5,none⟩=some (.int .i64 c.size)∧x.cell? ⟨w.heap.size,6,none⟩=some (.int .i64 c.period)∧x.cell? ⟨w.heap.size,7,none⟩=some (.int .i64 c.half)∧Below w.heap.size w x∧w.heap.size≤x.heap.size) (first | exact HS.out | exact keepW (by assumption) (by assumption))
  (first
   | (go_at_call 130;refine(cW _).mono ?_;rintro e x ⟨rfl,hx⟩))
 all_goals
  have hS:St w w.heap.size c x:=by assumption
  have hB:=hS.bel
  clear hS HS
  go_wp2
  go_ret
  exact⟨rfl,hB⟩
set_option maxHeartbeats 1000000 in
theorem pbound_any {c:Cf} (r:Rng c) (w:World):Calls Tryz.prog 146 #[cfV c] w fun e w'=>e=.returned (.int .i64 (boundZ c))∧Below w.heap.size w w':=by
 have hb:=bound_box r
 have hl:=lead_box r
 have e0:IntKind.i64.wrap (leadZ c+1)=leadZ c+1:=by rw [IntKind.wrap_i64];omega
 have e1:IntKind.i64.wrap (c.queue*c.limit)=c.queue*c.limit:=by rw [IntKind.wrap_i64];omega
 have e2:IntKind.i64.wrap (leadZ c+1+c.queue*c.limit)=boundZ c:=by
  have h:boundZ c=leadZ c+1+c.queue*c.limit:=rfl
  rw [← h,IntKind.wrap_i64]
  omega
 have cL:=plead_any r
 clear hb hl
 generalize leadZ c=L0 at *
 generalize boundZ c=B0 at *
 unfold cfV at *
 have HS:Hid (St w w.heap.size c (w.alloc (.cells #[.int .i64 c.nodes,.int .i64 c.queue,.int .i64 c.limit,.int .i64 c.age,.int .i64 c.fair,.int .i64 c.size,.int .i64 c.period,.int .i64 c.half] 118)).drew):=keepW (St.new4 w c) ((Below.refl _ _).drew)
 go_enter Tryz.func146,Tryz.ntmps146
 go_upto_region 1 with fail
 go_region_held3 (fun x=>x.cell? ⟨w.heap.size,0,none⟩=some (.int .i64 c.nodes)∧x.cell? ⟨w.heap.size,1,none⟩=some (.int .i64 c.queue)∧x.cell? ⟨w.heap.size,2,none⟩=some (.int .i64 c.limit)∧x.cell? ⟨w.heap.size,3,none⟩=some (.int .i64 c.age)∧x.cell? ⟨w.heap.size,4,none⟩=some (.int .i64 c.fair)∧x.cell? ⟨w.heap.size,5,none⟩=some (.int .i64 c.size)∧x.cell? ⟨w.heap.size,6,none⟩=some (.int .i64 c.period)∧x.cell? ⟨w.heap.size,7,none⟩=some (.int .i64 c.half)∧Below w.heap.size w x∧w.heap.size≤x.heap.size) (first | exact HS.out | exact keepW (by assumption) (by assumption))
  (first
   | (go_at_call 176;refine(cL _).mono ?_;rintro e x ⟨rfl,hx⟩))
 all_goals
  have hS:St w w.heap.size c x:=by assumption
  have hB:=hS.bel
  clear hS HS
  go_wp2
  go_ret
  exact⟨rfl,hB⟩
set_option maxHeartbeats 1000000 in
theorem preach_any {c:Cf} (r:Rng c) (w:World):Calls Tryz.prog 133 #[cfV c] w fun e w'=>e=.returned (.int .i64 (topZ c))∧Below w.heap.size w w':=by
 have hb:=top_box r
 have hl:=ahead_box r
 have e1:IntKind.i64.wrap (c.age*boundZ c)=c.age*boundZ c:=by rw [IntKind.wrap_i64];omega
 have e2:IntKind.i64.wrap (c.age*boundZ c+aheadZ c)=topZ c:=by
  have h:topZ c=c.age*boundZ c+aheadZ c:=rfl
  rw [← h,IntKind.wrap_i64]
  omega
 have cB:=pbound_any r
 have cW:=pweight_any r
 clear hb hl
 generalize aheadZ c=A0 at *
 generalize boundZ c=B0 at *
 generalize topZ c=T0 at *
 unfold cfV at *
 have HS:Hid (St w w.heap.size c (w.alloc (.cells #[.int .i64 c.nodes,.int .i64 c.queue,.int .i64 c.limit,.int .i64 c.age,.int .i64 c.fair,.int .i64 c.size,.int .i64 c.period,.int .i64 c.half] 118)).drew):=keepW (St.new4 w c) ((Below.refl _ _).drew)
 go_enter Tryz.func133,Tryz.ntmps133
 go_upto_region 1 with fail
 go_region_held3 (fun x=>x.cell? ⟨w.heap.size,0,none⟩=some (.int .i64 c.nodes)∧x.cell? ⟨w.heap.size,1,none⟩=some (.int .i64 c.queue)∧x.cell? ⟨w.heap.size,2,none⟩=some (.int .i64 c.limit)∧x.cell? ⟨w.heap.size,3,none⟩=some (.int .i64 c.age)∧x.cell? ⟨w.heap.size,4,none⟩=some (.int .i64 c.fair)∧x.cell? ⟨w.heap.size,5,none⟩=some (.int .i64 c.size)∧x.cell? ⟨w.heap.size,6,none⟩=some (.int .i64 c.period)∧x.cell? ⟨w.heap.size,7,none⟩=some (.int .i64 c.half)∧Below w.heap.size w x∧w.heap.size≤x.heap.size) (first | exact HS.out | exact keepW (by assumption) (by assumption))
  (first
   | (go_at_call 146;refine(cB _).mono ?_;rintro e x ⟨rfl,hx⟩)
   | (go_at_call 130;refine(cW _).mono ?_;rintro e x ⟨rfl,hx⟩))
 all_goals
  have hS:St w w.heap.size c x:=by assumption
  have hB:=hS.bel
  clear hS HS
  go_wp2
  go_ret
  exact⟨rfl,hB⟩
theorem ceil_up {u b:Int} (hb:0<b):ceilV u b=upZ u b:=by
 have e:=Int.mul_ediv_add_emod u b
 have m0:=Int.emod_nonneg u (show b≠0 by omega)
 have m1:=Int.emod_lt_of_pos u hb
 unfold ceilV upZ
 split
 ·rename_i h
  have z:(b - 1) / b=0:=Int.ediv_eq_zero_of_lt (by omega) (by omega)
  rw [show u+b - 1=(b - 1)+b*(u / b) by omega,Int.add_mul_ediv_left _ _ (show b≠0 by omega),z]
  omega
 ·rename_i h
  have z:(u % b - 1) / b=0:=Int.ediv_eq_zero_of_lt (by omega) (by omega)
  rw [show u+b - 1=(u % b - 1)+b*(u / b+1) by rw [Int.mul_add];omega,Int.add_mul_ediv_left _ _ (show b≠0 by omega),z]
  omega
set_option maxHeartbeats 1000000 in
theorem pkept_any {c:Cf} (r:Rng c) (w:World):Calls Tryz.prog 158 #[cfV c] w fun e w'=>e=.returned (.int .i64 (kZ c))∧Below w.heap.size w w':=by
 have he:=e_box r
 have hu:=up_box he.1
 have p0:=r.p0
 have p1:=r.p1
 have h0:=r.h0
 have h1:=r.h1
 have d1:dnV (c.period*4294967296) c.half=eZ c:=by
  unfold dnV narV
  rw [if_neg (by omega),show c.period*4294967296 / c.half=eZ c from rfl,if_pos (by omega)]
 have d2:upV (2*4294967296) (eZ c)=upZ 8589934592 (eZ c):=by
  unfold upV narV
  rw [if_neg (by omega),show (2:Int)*4294967296=8589934592 from rfl,ceil_up (by omega),if_pos (by omega)]
 have cD:=divDown_any c.period c.half ⟨by omega,by omega⟩ ⟨by omega,by omega⟩
 have cU:=divUp_any 2 (eZ c) ⟨by omega,by omega⟩ ⟨by omega,by omega⟩
 rw [d1]at cD
 rw [d2]at cU
 have e1:IntKind.u64.wrap c.period=c.period:=by rw [IntKind.wrap_u64];omega
 have e2:IntKind.u64.wrap c.half=c.half:=by rw [IntKind.wrap_u64];omega
 have e3:IntKind.i64.wrap (upZ 8589934592 (eZ c))=upZ 8589934592 (eZ c):=by rw [IntKind.wrap_i64];omega
 have hk:kZ c=if upZ 8589934592 (eZ c)<2 then 2 else upZ 8589934592 (eZ c):=rfl
 rw [hk]
 clear hk d1 d2 he p0 p1 h0 h1
 generalize dnB (c.period*4294967296) c.half=b1 at *
 generalize upB (2*4294967296) (eZ c)=b2 at *
 generalize upZ 8589934592 (eZ c)=k at *
 generalize eZ c=ee at *
 unfold cfV
 have hS:=St.new4 w c
 by_cases h2:k<2
 ·rw [if_pos h2]
  go_enter Tryz.func158,Tryz.ntmps158
  go_wp2_with fail
  refine(cD _).mono ?_
  rintro e w1 ⟨rfl,bb1⟩
  go_wp2_with fail
  refine(cU _).mono ?_
  rintro e w2 ⟨rfl,bb2⟩
  have hB:=(keepW (keepW hS bb1) bb2).bel
  clear hS bb1 bb2 cD cU
  go_wp2
  go_ret
  exact⟨rfl,hB⟩
 ·rw [if_neg h2]
  go_enter Tryz.func158,Tryz.ntmps158
  go_wp2_with fail
  refine(cD _).mono ?_
  rintro e w1 ⟨rfl,bb1⟩
  go_wp2_with fail
  refine(cU _).mono ?_
  rintro e w2 ⟨rfl,bb2⟩
  have hB:=(keepW (keepW hS bb1) bb2).bel
  clear hS bb1 bb2 cD cU
  go_wp2
  all_goals
   go_ret
   exact⟨by first | rfl | (rw [show k=2 by omega];rfl),hB⟩
set_option maxHeartbeats 1000000 in
theorem pmost_any {c:Cf} (r:Rng c) (w:World):Calls Tryz.prog 129 #[cfV c] w fun e w'=>e=.returned (.int .i64 (mZ c))∧Below w.heap.size w w':=by
 have hb:=m_box r
 have hc:=c_box r
 have e1:IntKind.i64.wrap (cZ c*kZ c)=mZ c:=by
  have h:mZ c=cZ c*kZ c:=rfl
  rw [← h,IntKind.wrap_i64]
  omega
 have cC:=pcharge_any r
 have cK:=pkept_any r
 clear hb hc
 generalize cZ c=C0 at *
 generalize kZ c=K0 at *
 generalize mZ c=M0 at *
 unfold cfV at *
 have HS:Hid (St w w.heap.size c (w.alloc (.cells #[.int .i64 c.nodes,.int .i64 c.queue,.int .i64 c.limit,.int .i64 c.age,.int .i64 c.fair,.int .i64 c.size,.int .i64 c.period,.int .i64 c.half] 118)).drew):=keepW (St.new4 w c) ((Below.refl _ _).drew)
 go_enter Tryz.func129,Tryz.ntmps129
 go_upto_region 1 with fail
 go_region_held3 (fun x=>x.cell? ⟨w.heap.size,0,none⟩=some (.int .i64 c.nodes)∧x.cell? ⟨w.heap.size,1,none⟩=some (.int .i64 c.queue)∧x.cell? ⟨w.heap.size,2,none⟩=some (.int .i64 c.limit)∧x.cell? ⟨w.heap.size,3,none⟩=some (.int .i64 c.age)∧x.cell? ⟨w.heap.size,4,none⟩=some (.int .i64 c.fair)∧x.cell? ⟨w.heap.size,5,none⟩=some (.int .i64 c.size)∧x.cell? ⟨w.heap.size,6,none⟩=some (.int .i64 c.period)∧x.cell? ⟨w.heap.size,7,none⟩=some (.int .i64 c.half)∧Below w.heap.size w x∧w.heap.size≤x.heap.size) (first | exact HS.out | exact keepW (by assumption) (by assumption))
  (first
   | (go_at_call 157;refine(cC _).mono ?_;rintro e x ⟨rfl,hx⟩)
   | (go_at_call 158;refine(cK _).mono ?_;rintro e x ⟨rfl,hx⟩))
 all_goals
  have hS:St w w.heap.size c x:=by assumption
  have hB:=hS.bel
  clear hS HS
  go_wp2
  go_ret
  exact⟨rfl,hB⟩
set_option maxHeartbeats 1000000 in
theorem plost_any {c:Cf} (r:Rng c) (hm:mZ c≤2147483648) (w:World):Calls Tryz.prog 161 #[cfV c] w fun e w'=>e=.returned (.int .i64 (gZ c))∧Below w.heap.size w w':=by
 have hb:=m_box r
 have hc:=c_box r
 have hg:=g_box r hm
 have e0:IntKind.i64.wrap (mZ c*81)=mZ c*81:=by rw [IntKind.wrap_i64];omega
 have e3:IntKind.i64.wrap (mZ c*81+2147483648)=mZ c*81+2147483648:=by rw [IntKind.wrap_i64];omega
 have e4:IntKind.i64.wrap (mZ c*81+2147483648 - 1)=mZ c*81+2147483648 - 1:=by rw [IntKind.wrap_i64];omega
 have e5:IntKind.i64.wrap (Int.tdiv (mZ c*81+2147483648 - 1) 2147483648)=upZ (mZ c*81) 2147483648:=by
  rw [show Int.tdiv (mZ c*81+2147483648 - 1) 2147483648=upZ (mZ c*81) 2147483648 from Int.tdiv_eq_ediv_of_nonneg (by omega),IntKind.wrap_i64]
  omega
 have e1:IntKind.i64.wrap (1+upZ (mZ c*81) 2147483648)=1+upZ (mZ c*81) 2147483648:=by rw [IntKind.wrap_i64];omega
 have e2:IntKind.i64.wrap (kZ c*(1+upZ (mZ c*81) 2147483648))=gZ c:=by
  have h:gZ c=kZ c*(1+upZ (mZ c*81) 2147483648):=rfl
  rw [← h,IntKind.wrap_i64]
  omega
 have cK:=pkept_any r
 have cM:=pmost_any r
 clear hb hc hg hm
 generalize mZ c=M0 at *
 generalize upZ (M0*81) 2147483648=U0 at *
 generalize kZ c=K0 at *
 generalize gZ c=G0 at *
 unfold cfV at *
 have HS:Hid (St w w.heap.size c (w.alloc (.cells #[.int .i64 c.nodes,.int .i64 c.queue,.int .i64 c.limit,.int .i64 c.age,.int .i64 c.fair,.int .i64 c.size,.int .i64 c.period,.int .i64 c.half] 118)).drew):=keepW (St.new4 w c) ((Below.refl _ _).drew)
 go_enter Tryz.func161,Tryz.ntmps161
 go_upto_region 1 with fail
 go_region_held3 (fun x=>x.cell? ⟨w.heap.size,0,none⟩=some (.int .i64 c.nodes)∧x.cell? ⟨w.heap.size,1,none⟩=some (.int .i64 c.queue)∧x.cell? ⟨w.heap.size,2,none⟩=some (.int .i64 c.limit)∧x.cell? ⟨w.heap.size,3,none⟩=some (.int .i64 c.age)∧x.cell? ⟨w.heap.size,4,none⟩=some (.int .i64 c.fair)∧x.cell? ⟨w.heap.size,5,none⟩=some (.int .i64 c.size)∧x.cell? ⟨w.heap.size,6,none⟩=some (.int .i64 c.period)∧x.cell? ⟨w.heap.size,7,none⟩=some (.int .i64 c.half)∧Below w.heap.size w x∧w.heap.size≤x.heap.size) (first | exact HS.out | exact keepW (by assumption) (by assumption))
  (first
   | (go_at_call 158;refine(cK _).mono ?_;rintro e x ⟨rfl,hx⟩)
   | (go_at_call 129;refine(cM _).mono ?_;rintro e x ⟨rfl,hx⟩))
 all_goals
  have hS:St w w.heap.size c x:=by assumption
  have hB:=hS.bel
  clear hS HS
  go_wp2
  go_ret
  exact⟨rfl,hB⟩
end Go.Proofs.YtceoibfliggalaaGreatDoor
namespace Go.Proofs.YtceoibfliggalaaGreatDoor
open Go.RowKit Wd Cg
theorem padd_fit {u v:Int} (hu:0≤u) (hv:0≤v) (h:u+v≤top) (w:World):
  Calls Tryz.prog 162 #[nu u,nu v] w fun e w'=>e=.returned (.tuple #[nu (u+v),.bool true])∧Below w.heap.size w w':=by
 have c:=add_num u v ⟨hu,by omega⟩ ⟨hv,by omega⟩ w
 rw [show addV u v=u+v by unfold addV;rw [if_pos h],show addB u v=true by unfold addB;exact decide_eq_true h]at c
 exact c
theorem ptimes_fit {u b:Int} (hu:Num u) (hb:Word b) (h:u*b≤top) (w:World):
  Calls Tryz.prog 132 #[nu u,.int .u64 b] w fun e w'=>e=.returned (.tuple #[nu (u*b),.bool true])∧Below w.heap.size w w':=by
 have c:=times_num u b hu hb w
 rw [show timV u b=u*b by unfold timV;rw [if_pos h],show timB u b=true by unfold timB;exact decide_eq_true h]at c
 exact c
theorem pcmp_nu (u v:Int) (w:World):Calls Tryz.prog 134 #[nu u,nu v] w fun e w'=>e=.returned (.int .i64 (cmpV u v))∧Below w.heap.size w w':=by
 have c:=cmp_any (hiW u) (loW u) (hiW v) (loW v) (lo_word u) (lo_word v) w
 rw [val_words,val_words]at c
 exact c
theorem pof_nu {n:Int} (hn:Word n) (w:World):Calls Tryz.prog 159 #[.int .u64 n] w fun e w'=>e=.returned (nu n)∧Below w.heap.size w w':=of_num n hn w
theorem pmul_nu {x y:Int} (hx:Word x) (hy:Word y) (w:World):Calls Tryz.prog 160 #[.int .u64 x,.int .u64 y] w fun e w'=>e=.returned (nu (x*y))∧Below w.heap.size w w':=mul_any x y hx hy w
theorem Two.new7 (w:World) (v:Int):Two (w.alloc (.cells #[.int .u64 (hiW v),.int .u64 (loW v)] 174)) w.heap.size v:=
 ⟨by simp,by simp,by simp [go_sem],by simp [go_sem]⟩
def offW (w:World) (c:Cf):World:=((w.alloc (.cells #[.int .i64 c.nodes,.int .i64 c.queue,.int .i64 c.limit,.int .i64 c.age,.int .i64 c.fair,.int .i64 c.size,.int .i64 c.period,.int .i64 c.half] 118)).alloc (.cells #[.int .u64 0,.int .u64 0] 174)).alloc (.cells #[.int .u64 0,.int .u64 0] 174)
theorem offW_st (w:World) (c:Cf):St w w.heap.size c (offW w c):=keepW (keepW (St.new4 w c) ((Below.refl _ _).alloc (Nat.le_refl _) _)) ((Below.refl _ _).alloc (Nat.le_refl _) _)
theorem offW_two (w:World) (c:Cf):Two (offW w c) (w.heap.size+1) 0∧Two (offW w c) (w.heap.size+1+1) 0:=by
 unfold offW
 exact⟨⟨by simp [go_sem];rfl,by simp [go_sem];rfl,by simp [go_sem],by simp [go_sem]⟩,⟨by simp [go_sem];rfl,by simp [go_sem];rfl,by simp [go_sem],by simp [go_sem]⟩⟩
theorem poff_none {c:Cf} (h0:c.fair=0) (w:World):Calls Tryz.prog 131 #[cfV c] w fun e w'=>e=.returned (.tuple #[nu (offN c),nu (offD c)])∧Below w.heap.size w w':=by
 have e1:offN c=0:=by unfold offN;rw [if_pos h0]
 have e2:offD c=1:=by unfold offD;rw [if_pos h0]
 rw [e1,e2]
 have c0:=pof_nu (n:=0) ⟨by omega,by omega⟩
 have c1:=pof_nu (n:=1) ⟨by omega,by omega⟩
 rw [show nu 0=.agg #[.int .u64 0,.int .u64 0]from rfl]at *
 rw [show nu 1=.agg #[.int .u64 0,.int .u64 1]from rfl]at *
 have hS:=offW_st w c
 obtain⟨t2,t3⟩:=offW_two w c
 unfold offW at hS t2 t3
 unfold cfV
 rw [h0]at *
 go_enter Tryz.func131,Tryz.ntmps131
 go_wp2_with fail
 generalize ((w.alloc (.cells #[.int .i64 c.nodes,.int .i64 c.queue,.int .i64 c.limit,.int .i64 c.age,.int .i64 0,.int .i64 c.size,.int .i64 c.period,.int .i64 c.half] 118)).alloc (.cells #[.int .u64 0,.int .u64 0] 174)).alloc (.cells #[.int .u64 0,.int .u64 0] 174)=v0 at *
 refine(c0 _).mono ?_
 rintro e w0 ⟨rfl,b0⟩
 replace hS:=keepW hS b0
 replace t2:=t2.keep b0
 replace t3:=t3.keep b0
 clear b0
 go_wp2_with fail
 refine(c1 _).mono ?_
 rintro e w1 ⟨rfl,b1⟩
 have B1:=(keepW hS b1).bel
 obtain⟨p0,p1,p2,p3⟩:=t2.keep b1
 obtain⟨q0,q1,q2,q3⟩:=t3.keep b1
 clear t2 t3 b1 hS c1 c0
 go_wp2
 refine bodyPost_ret (v:=.tuple #[.agg #[.int .u64 0,.int .u64 0],.agg #[.int .u64 0,.int .u64 1]]) (by simp [results,Tryz.results131,go_sem,p0,p1,q0,q1]) rfl ⟨rfl,?_⟩
 exact(((B1.setCell (by simp) _).setCell (by simp) _).setCell (by simp;omega) _).setCell (by simp;omega) _
def StO (w:World) (D0:Int) (c:Cf) (x:World):Prop:=(x.cell? ⟨w.heap.size,0,none⟩=some (.int .i64 c.nodes)∧x.cell? ⟨w.heap.size,1,none⟩=some (.int .i64 c.queue)∧x.cell? ⟨w.heap.size,2,none⟩=some (.int .i64 c.limit)∧x.cell? ⟨w.heap.size,3,none⟩=some (.int .i64 c.age)∧x.cell? ⟨w.heap.size,4,none⟩=some (.int .i64 c.fair)∧x.cell? ⟨w.heap.size,5,none⟩=some (.int .i64 c.size)∧x.cell? ⟨w.heap.size,6,none⟩=some (.int .i64 c.period)∧x.cell? ⟨w.heap.size,7,none⟩=some (.int .i64 c.half)∧Below w.heap.size w x∧w.heap.size≤x.heap.size)∧(x.cell? ⟨w.heap.size+1,0,none⟩=some (.int .u64 (hiW 0))∧x.cell? ⟨w.heap.size+1,1,none⟩=some (.int .u64 (loW 0))∧x.frozen? ⟨w.heap.size+1,0,none⟩=false∧x.frozen? ⟨w.heap.size+1,1,none⟩=false)∧(x.cell? ⟨w.heap.size+1+1,0,none⟩=some (.int .u64 (hiW D0))∧x.cell? ⟨w.heap.size+1+1,1,none⟩=some (.int .u64 (loW D0))∧x.frozen? ⟨w.heap.size+1+1,0,none⟩=false∧x.frozen? ⟨w.heap.size+1+1,1,none⟩=false)
theorem StO.of {w x:World} {D0:Int} {c:Cf} (h:St w w.heap.size c x) (a:Two x (w.heap.size+1) 0) (b:Two x (w.heap.size+1+1) D0):StO w D0 c x:=
 ⟨h,⟨a.c0,a.c1,a.f0,a.f1⟩,⟨b.c0,b.c1,b.f0,b.f1⟩⟩
theorem StO.st {w x:World} {D0:Int} {c:Cf} (h:StO w D0 c x):St w w.heap.size c x:=h.1
theorem StO.a {w x:World} {D0:Int} {c:Cf} (h:StO w D0 c x):Two x (w.heap.size+1) 0:=⟨h.2.1.1,h.2.1.2.1,h.2.1.2.2.1,h.2.1.2.2.2⟩
theorem StO.b {w x:World} {D0:Int} {c:Cf} (h:StO w D0 c x):Two x (w.heap.size+1+1) D0:=⟨h.2.2.1,h.2.2.2.1,h.2.2.2.2.1,h.2.2.2.2.2⟩
theorem StO.keep {w x y:World} {D0:Int} {c:Cf} (h:StO w D0 c x) (b:Below x.heap.size x y):StO w D0 c y:=StO.of (keepW h.st b) (h.a.keep b) (h.b.keep b)
set_option maxHeartbeats 2000000 in
theorem poff_some {c:Cf} (r:Rng c) (hm:mZ c≤2147483648) (h0:¬c.fair=0) (w:World):Calls Tryz.prog 131 #[cfV c] w fun e w'=>e=.returned (.tuple #[nu (offN c),nu (offD c)])∧Below w.heap.size w w':=by
 have e1:offN c=cZ c*4294967296+c.fair*(258048*gZ c+2*cZ c):=by unfold offN;rw [if_neg h0,Int.mul_comm c.fair];omega
 have e2:offD c=cZ c*4294967296:=by unfold offD;rw [if_neg h0]
 have hc:=c_box r
 have hg:=g_box r hm
 have ho:=off_box r hm
 have hf0:=r.f0
 have hf1:=r.f1
 have tp:top=340282366920938463463374607431768211455:=rfl
 have hcm:(258048*gZ c+2*cZ c)*c.fair=c.fair*(258048*gZ c+2*cZ c):=Int.mul_comm _ _
 rw [hcm]at ho
 rw [e1,e2]at *
 have cC:=pcharge_any r
 have cG:=plost_any r hm
 have cD:=pmul_nu (x:=cZ c) (y:=4294967296) ⟨by omega,by omega⟩ ⟨by omega,by omega⟩
 have cX:=pmul_nu (x:=c.fair) (y:=258048*gZ c+2*cZ c) ⟨by omega,by omega⟩ ⟨by omega,by omega⟩
 have cA:=padd_fit (u:=cZ c*4294967296) (v:=c.fair*(258048*gZ c+2*cZ c)) (by omega) (by omega) (by omega)
 have m1:IntKind.u64.wrap (cZ c)=cZ c:=by rw [IntKind.wrap_u64];omega
 have m2:IntKind.i64.wrap (258048*gZ c)=258048*gZ c:=by rw [IntKind.wrap_i64];omega
 have m3:IntKind.i64.wrap (2*cZ c)=2*cZ c:=by rw [IntKind.wrap_i64];omega
 have m6:IntKind.i64.wrap (258048*gZ c+2*cZ c)=258048*gZ c+2*cZ c:=by rw [IntKind.wrap_i64];omega
 have m4:IntKind.u64.wrap (258048*gZ c+2*cZ c)=258048*gZ c+2*cZ c:=by rw [IntKind.wrap_u64];omega
 have m5:IntKind.u64.wrap c.fair=c.fair:=by rw [IntKind.wrap_u64];omega
 clear e1 e2 hc hg ho hf0 hf1 tp hm hcm
 generalize hV0:258048*gZ c+2*cZ c=V0 at *
 generalize hT0:c.fair*V0=T0 at *
 generalize hD0:cZ c*4294967296=D0 at *
 clear hT0 hD0
 replace hV0:Hid (258048*gZ c+2*cZ c=V0):=hV0
 have m6':IntKind.i64.wrap (258048*gZ c+2*cZ c)=V0:=by rw [hV0.out];exact m6
 clear hV0 m6
 generalize gZ c=G0 at *
 generalize cZ c=C0 at *
 generalize D0+T0=R0 at *
 have hS:=offW_st w c
 obtain⟨t2,t3⟩:=offW_two w c
 unfold offW at hS t2 t3
 unfold cfV at *
 go_enter Tryz.func131,Tryz.ntmps131
 go_wp2_with fail
 generalize ((w.alloc (.cells #[.int .i64 c.nodes,.int .i64 c.queue,.int .i64 c.limit,.int .i64 c.age,.int .i64 c.fair,.int .i64 c.size,.int .i64 c.period,.int .i64 c.half] 118)).alloc (.cells #[.int .u64 0,.int .u64 0] 174)).alloc (.cells #[.int .u64 0,.int .u64 0] 174)=v0 at *
 refine(cC _).mono ?_
 rintro e w1 ⟨rfl,b1⟩
 replace hS:=keepW hS b1
 replace t2:=t2.keep b1
 replace t3:=t3.keep b1
 clear b1
 go_wp2_with fail
 refine(cD _).mono ?_
 rintro e w2 ⟨rfl,b2⟩
 replace hS:=keepW hS b2
 replace t2:=t2.keep b2
 replace t3:=t3.keep b2
 clear b2
 obtain⟨g0,g1,g2,g3⟩:=id t3
 go_upto_region 4 with fail
 clear g0 g1 g2 g3
 replace t2:=t2.far (show w.heap.size+1≠w.heap.size+1+1 by omega) D0
 replace hS:=hS.far (show w.heap.size≠w.heap.size+1+1 by omega) (by omega) D0
 replace t3:=t3.put D0
 change Code.wp _ _ _ _ (put w2 (w.heap.size+1+1) D0)
 generalize put w2 (w.heap.size+1+1) D0=v3 at *
 have HS:Hid (StO w D0 c v3.drew):=(StO.of hS t2 t3).keep (Below.refl _ _).drew
 clear hS t2 t3
 go_region_held3 (fun x=>(x.cell? ⟨w.heap.size,0,none⟩=some (.int .i64 c.nodes)∧x.cell? ⟨w.heap.size,1,none⟩=some (.int .i64 c.queue)∧x.cell? ⟨w.heap.size,2,none⟩=some (.int .i64 c.limit)∧x.cell? ⟨w.heap.size,3,none⟩=some (.int .i64 c.age)∧x.cell? ⟨w.heap.size,4,none⟩=some (.int .i64 c.fair)∧x.cell? ⟨w.heap.size,5,none⟩=some (.int .i64 c.size)∧x.cell? ⟨w.heap.size,6,none⟩=some (.int .i64 c.period)∧x.cell? ⟨w.heap.size,7,none⟩=some (.int .i64 c.half)∧Below w.heap.size w x∧w.heap.size≤x.heap.size)∧(x.cell? ⟨w.heap.size+1,0,none⟩=some (.int .u64 (hiW 0))∧x.cell? ⟨w.heap.size+1,1,none⟩=some (.int .u64 (loW 0))∧x.frozen? ⟨w.heap.size+1,0,none⟩=false∧x.frozen? ⟨w.heap.size+1,1,none⟩=false)∧(x.cell? ⟨w.heap.size+1+1,0,none⟩=some (.int .u64 (hiW D0))∧x.cell? ⟨w.heap.size+1+1,1,none⟩=some (.int .u64 (loW D0))∧x.frozen? ⟨w.heap.size+1+1,0,none⟩=false∧x.frozen? ⟨w.heap.size+1+1,1,none⟩=false)) (first | exact HS.out | exact StO.keep (by assumption) (by assumption))
  (first
   | (go_at_call 161;refine(cG _).mono ?_;rintro e x ⟨rfl,hx⟩)
   | (go_at_call 157;refine(cC _).mono ?_;rintro e x ⟨rfl,hx⟩))
 all_goals
  have hO:StO w D0 c x:=by assumption
  have sd:=hO.st
  have td2:=hO.a
  have td3:=hO.b
  clear hO HS
  replace sd:=keepW sd (Below.refl x.heap.size x).drew
  replace td2:=td2.keep (Below.refl x.heap.size x).drew
  replace td3:=td3.keep (Below.refl x.heap.size x).drew
  go_upto_region 5 with fail
  obtain⟨g0,g1,g2,g3⟩:=id td3
  obtain⟨p0,p1,p2,p3⟩:=id td2
  obtain⟨s0,s1,s2,s3,s4,s5,s6,s7,_,_⟩:=id sd
  go_region_with (first
   | (go_at_call 160;refine(cX _).mono ?_;rintro e y ⟨rfl,hy⟩;have hy':=hy;replace td2:=Two.keep td2 hy';replace td3:=Two.keep td3 hy';replace sd:=keepW sd hy';clear hy';obtain⟨g0,g1,g2,g3⟩:=id td3;obtain⟨p0,p1,p2,p3⟩:=id td2;obtain⟨s0,s1,s2,s3,s4,s5,s6,s7,_,_⟩:=id sd)
   | (go_at_call 162;refine(cA _).mono ?_;rintro e y ⟨rfl,hy⟩;have hy':=hy;replace td2:=Two.keep td2 hy';replace td3:=Two.keep td3 hy';replace sd:=keepW sd hy';clear hy';obtain⟨g0,g1,g2,g3⟩:=id td3;obtain⟨p0,p1,p2,p3⟩:=id td2;obtain⟨s0,s1,s2,s3,s4,s5,s6,s7,_,_⟩:=id sd))
 all_goals
  clear s0 s1 s2 s3 s4 s5 s6 s7 g0 g1 g2 g3 p0 p1 p2 p3
  replace td3:=td3.far (show w.heap.size+1+1≠w.heap.size+1 by omega) R0
  replace sd:=sd.far (show w.heap.size≠w.heap.size+1 by omega) (by omega) R0
  replace td2:=td2.put R0
  change Exit.then _ _ _ _ (put y (w.heap.size+1) R0)
  generalize put y (w.heap.size+1) R0=v5 at *
  obtain⟨g0,g1,g2,g3⟩:=id td3
  obtain⟨p0,p1,p2,p3⟩:=id td2
  have B5:=sd.bel
  clear sd td2 td3
  go_upto_region 6 with fail
  go_region
 all_goals go_wp2
 all_goals refine bodyPost_ret (v:=.tuple #[nu R0,nu D0]) (by simp [results,Tryz.results131,go_sem,p0,p1,g0,g1]) rfl ⟨rfl,?_⟩
 all_goals repeat first | exact B5 | refine Below.drew ?_ | refine Below.setCell ?_ (by first | (simp;done) | (simp;omega) | omega) _
theorem poff_any {c:Cf} (r:Rng c) (hm:mZ c≤2147483648) (w:World):Calls Tryz.prog 131 #[cfV c] w fun e w'=>e=.returned (.tuple #[nu (offN c),nu (offD c)])∧Below w.heap.size w w':=by
 by_cases h0:c.fair=0
 ·exact poff_none h0 w
 ·exact poff_some r hm h0 w
end Go.Proofs.YtceoibfliggalaaGreatDoor
namespace Go.Proofs.YtceoibfliggalaaGreatDoor
open Go.RowKit Wd Cg
theorem prefuse_usage {c:Cf} (r:Rng c) (w:World):Calls Tryz.prog 87 #[cfV c] w fun e w'=>e=.returned (.int .i64 (if 2147483648<mZ c then 111 else 0))∧Below w.heap.size w w':=by
 have c1:=pmost_any r
 generalize mZ c=M0 at *
 have hS:=St.new4 w c
 unfold cfV at *
 by_cases h:2147483648<M0
 ·rw [if_pos h]
  go_enter Tryz.func87,Tryz.ntmps87
  go_wp2_with fail
  refine(c1 _).mono ?_
  rintro e w1 ⟨rfl,b1⟩
  have hB:=(keepW hS b1).bel
  clear hS b1
  go_wp2
  go_ret
  exact⟨rfl,hB⟩
 ·rw [if_neg h]
  go_enter Tryz.func87,Tryz.ntmps87
  go_wp2_with fail
  refine(c1 _).mono ?_
  rintro e w1 ⟨rfl,b1⟩
  have hB:=(keepW hS b1).bel
  clear hS b1
  go_wp2
  go_ret
  exact⟨rfl,hB⟩
set_option maxHeartbeats 1000000 in
theorem prefuse_scale {c:Cf} (r:Rng c) (w:World):Calls Tryz.prog 88 #[cfV c] w fun e w'=>e=.returned (.int .i64 0)∧Below w.heap.size w w':=by
 have cW:=pweight_any r
 have ha:=ahead_box r
 have a0:=r.a0
 have a1:=r.a1
 have e1:IntKind.i64.wrap (c.age*1099511627776)=c.age*1099511627776:=by rw [IntKind.wrap_i64];omega
 have e2:IntKind.i64.wrap (c.age*1099511627776+aheadZ c)=c.age*1099511627776+aheadZ c:=by rw [IntKind.wrap_i64];omega
 have e5:¬4611686018427387904≤c.age*1099511627776+aheadZ c:=by omega
 clear ha a0 a1
 generalize aheadZ c=A0 at *
 unfold cfV at *
 have HS:Hid (St w w.heap.size c (w.alloc (.cells #[.int .i64 c.nodes,.int .i64 c.queue,.int .i64 c.limit,.int .i64 c.age,.int .i64 c.fair,.int .i64 c.size,.int .i64 c.period,.int .i64 c.half] 118)).drew):=keepW (St.new4 w c) ((Below.refl _ _).drew)
 go_enter Tryz.func88,Tryz.ntmps88
 go_upto_region 1 with fail
 go_region_held3 (fun x=>x.cell? ⟨w.heap.size,0,none⟩=some (.int .i64 c.nodes)∧x.cell? ⟨w.heap.size,1,none⟩=some (.int .i64 c.queue)∧x.cell? ⟨w.heap.size,2,none⟩=some (.int .i64 c.limit)∧x.cell? ⟨w.heap.size,3,none⟩=some (.int .i64 c.age)∧x.cell? ⟨w.heap.size,4,none⟩=some (.int .i64 c.fair)∧x.cell? ⟨w.heap.size,5,none⟩=some (.int .i64 c.size)∧x.cell? ⟨w.heap.size,6,none⟩=some (.int .i64 c.period)∧x.cell? ⟨w.heap.size,7,none⟩=some (.int .i64 c.half)∧Below w.heap.size w x∧w.heap.size≤x.heap.size) (first | exact HS.out | exact keepW (by assumption) (by assumption))
  (first
   | (go_at_call 130;refine(cW _).mono ?_;rintro e x ⟨rfl,hx⟩))
 all_goals
  have hS:St w w.heap.size c x:=by assumption
  have hB:=hS.bel
  clear hS HS
  go_wp2
  go_ret
  exact⟨rfl,hB⟩
set_option maxHeartbeats 2000000 in
theorem prefuse_rounding {c:Cf} (r:Rng c) (hm:mZ c≤2147483648) (w:World):Calls Tryz.prog 89 #[cfV c] w fun e w'=>e=.returned (.int .i64 (if offD c*topZ c<offN c*1000 then 113 else 0))∧Below w.heap.size w w':=by
 have c3:=poff_any r hm
 have c4:=preach_any r
 have ho:=off_box r hm
 have ht:=top_box r
 have tp:top=340282366920938463463374607431768211455:=rfl
 have hprod:=mul_box (a:=offD c) (b:=topZ c) (A:=1152921504606846976) (B:=562949953421312) (by omega) (by omega) (by omega) (by omega)
 have c5:=ptimes_fit (u:=offN c) (b:=1000) ⟨by omega,by omega⟩ ⟨by omega,by omega⟩ (by omega)
 have c6:=ptimes_fit (u:=offD c) (b:=topZ c) ⟨by omega,by omega⟩ ⟨by omega,by omega⟩ (by omega)
 have c7:=pcmp_nu (offN c*1000) (offD c*topZ c)
 have e9:IntKind.u64.wrap (topZ c)=topZ c:=by rw [IntKind.wrap_u64];omega
 clear ho ht tp hprod hm
 generalize hL:offN c*1000=L0 at *
 generalize hR:offD c*topZ c=P0 at *
 clear hL hR
 generalize topZ c=T0 at *
 generalize offN c=N0 at *
 generalize offD c=D0 at *
 unfold cfV at *
 have hS:=St.new4 w c
 go_enter Tryz.func89,Tryz.ntmps89
 go_wp2_with fail
 refine(c3 _).mono ?_
 rintro e w3 ⟨rfl,b3⟩
 replace hS:=keepW hS b3
 clear b3
 have bN:Below w3.heap.size w3 (w3.alloc (.cells #[.int .u64 (hiW N0),.int .u64 (loW N0)] 174)):=(Below.refl _ _).alloc (Nat.le_refl _) _
 have bD:Below (w3.alloc (.cells #[.int .u64 (hiW N0),.int .u64 (loW N0)] 174)).heap.size (w3.alloc (.cells #[.int .u64 (hiW N0),.int .u64 (loW N0)] 174)) ((w3.alloc (.cells #[.int .u64 (hiW N0),.int .u64 (loW N0)] 174)).alloc (.cells #[.int .u64 (hiW D0),.int .u64 (loW D0)] 174)):=(Below.refl _ _).alloc (Nat.le_refl _) _
 have tn:=(Two.new7 w3 N0).keep bD
 have td:=Two.new7 (w3.alloc (.cells #[.int .u64 (hiW N0),.int .u64 (loW N0)] 174)) D0
 rw [World.size_alloc]at td
 replace hS:=keepW (keepW hS bN) bD
 go_upto_region 2 with fail
 generalize (w3.alloc (.cells #[.int .u64 (hiW N0),.int .u64 (loW N0)] 174)).alloc (.cells #[.int .u64 (hiW D0),.int .u64 (loW D0)] 174)=v3 at *
 clear bN bD
 generalize w3.heap.size=k3 at *
 obtain⟨p0,p1,_,_⟩:=id tn
 go_wp2_with fail
 refine(c5 _).mono ?_
 rintro e w4 ⟨rfl,b4⟩
 replace hS:=keepW hS b4
 replace td:=td.keep b4
 clear b4 p0 p1 tn
 have bL:Below w4.heap.size w4 (w4.alloc (.cells #[.int .u64 (hiW L0),.int .u64 (loW L0)] 174)):=(Below.refl _ _).alloc (Nat.le_refl _) _
 have tl:=Two.new7 w4 L0
 replace hS:=keepW hS bL
 replace td:=td.keep bL
 go_upto_region 3 with fail
 generalize w4.alloc (.cells #[.int .u64 (hiW L0),.int .u64 (loW L0)] 174)=v4 at *
 clear bL
 generalize w4.heap.size=k6 at *
 have HV:Hid (St6 w (k3+1) k6 D0 L0 c v4):=⟨hS,td.c0,td.c1,tl.c0,tl.c1⟩
 have HS:Hid (St6 w (k3+1) k6 D0 L0 c v4.drew):=keep6 ⟨hS,td.c0,td.c1,tl.c0,tl.c1⟩ ((Below.refl _ _).drew)
 clear hS td tl
 go_region_held3 (fun x=>(x.cell? ⟨w.heap.size,0,none⟩=some (.int .i64 c.nodes)∧x.cell? ⟨w.heap.size,1,none⟩=some (.int .i64 c.queue)∧x.cell? ⟨w.heap.size,2,none⟩=some (.int .i64 c.limit)∧x.cell? ⟨w.heap.size,3,none⟩=some (.int .i64 c.age)∧x.cell? ⟨w.heap.size,4,none⟩=some (.int .i64 c.fair)∧x.cell? ⟨w.heap.size,5,none⟩=some (.int .i64 c.size)∧x.cell? ⟨w.heap.size,6,none⟩=some (.int .i64 c.period)∧x.cell? ⟨w.heap.size,7,none⟩=some (.int .i64 c.half)∧Below w.heap.size w x∧w.heap.size≤x.heap.size)∧x.cell? ⟨k3+1,0,none⟩=some (.int .u64 (hiW D0))∧x.cell? ⟨k3+1,1,none⟩=some (.int .u64 (loW D0))∧x.cell? ⟨k6,0,none⟩=some (.int .u64 (hiW L0))∧x.cell? ⟨k6,1,none⟩=some (.int .u64 (loW L0))) (first | exact HS.out | exact HY.out | exact HX.out | exact far6 HY.out HX.out | exact far6 HY.out HV.out | exact far6 HY.out HS.out | exact keep6 HY.out ((Below.refl _ _).alloc (Nat.le_refl _) _) | exact keep6 (by assumption) (by assumption) | exact keep6 (by assumption) ((Below.refl _ _).alloc (Nat.le_refl _) _) | exact keep6 HS.out ((Below.refl _ _).alloc (Nat.le_refl _) _) | exact far6 (by assumption) (by assumption) | exact far6 (by assumption) HS.out | exact keep6 HX.out ((Below.refl _ _).alloc (Nat.le_refl _) _))
  (first
   | (go_at_call 133;refine(c4 _).mono ?_;rintro e x ⟨rfl,hx⟩;have HX:Hid (St6 w (k3+1) k6 D0 L0 c x):=keep6 (by first | exact HS.out | assumption) hx;obtain⟨hc1,hf1⟩:=bkeep hx)
   | (go_at_call 132;refine(c6 _).mono ?_;rintro e x ⟨rfl,hx⟩;have HY:Hid (St6 w (k3+1) k6 D0 L0 c x):=keep6 (by first | exact HX.out | assumption) hx;obtain⟨hc3,hf3⟩:=bkeep hx;(first | (have g3:=trans_keep hc1 hc3;have j3:=trans_keepF hc1 hf1 hf3) | skip)))
 all_goals
  rename_i h6x
  have h6:St6 w (k3+1) k6 D0 L0 c _:=h6x
  clear h6x
  obtain⟨sd,d0,d1,l0,l1⟩:=id h6
  have B6:=sd.bel
  clear h6 sd HS HX HY HV
  go_wp2_with fail
  refine(c7 _).mono ?_
  rintro e w9 ⟨rfl,b9⟩
  have B9:=B6.trans (b9.mono B6.size)
  clear b9 B6 d0 d1 l0 l1
  by_cases hq:P0<L0
  ·have ec:cmpV L0 P0=1:=by unfold cmpV;rw [if_neg (by omega),if_neg (by omega)]
   rw [ec]
   go_wp2
   go_ret
   exact⟨by first | rfl | (rw [if_pos (by omega)];rfl),B9⟩
  ·have ec:¬0<cmpV L0 P0:=by unfold cmpV;split<;>(try split)<;>omega
   generalize cmpV L0 P0=q at ec ⊢
   go_wp2
   go_ret
   exact⟨by first | rfl | (rw [if_neg (by omega)];rfl),B9⟩
end Go.Proofs.YtceoibfliggalaaGreatDoor
namespace Go.Proofs.YtceoibfliggalaaGreatDoor
open Go.RowKit Wd Cg
def numZ (c:Cf):Nat→Int
 | 0=>c.nodes
 | 1=>c.queue
 | 2=>c.limit
 | 3=>c.age
 | 4=>c.fair
 | 5=>c.size
 | 6=>c.period
 | _=>c.half
def loZ:Nat→Int
 | 4=>0
 | 5=>0
 | _=>1
def hiZ:Nat→Int
 | 0=>256
 | 1=>128
 | 7=>1073741824
 | _=>1048576
theorem idx_rng (c:Cf) {j:Nat} (hj:j<8) (w:World):(Instr.index 173 (.agg #[.int .i64 c.nodes,.int .i64 1,.int .i64 256,.int .i64 c.queue,.int .i64 1,.int .i64 128,.int .i64 c.limit,.int .i64 1,.int .i64 1048576,.int .i64 c.age,.int .i64 1,.int .i64 1048576,.int .i64 c.fair,.int .i64 0,.int .i64 1048576,.int .i64 c.size,.int .i64 0,.int .i64 1048576,.int .i64 c.period,.int .i64 1,.int .i64 1048576,.int .i64 c.half,.int .i64 1,.int .i64 1073741824]) (.int .i64 j)).run Tryz.prog w=.ok (.agg #[.int .i64 (numZ c j),.int .i64 (loZ j),.int .i64 (hiZ j)]) w:=by
 obtain rfl | rfl | rfl | rfl | rfl | rfl | rfl | rfl:j=0∨j=1∨j=2∨j=3∨j=4∨j=5∨j=6∨j=7:=by omega
 all_goals simp [Instr.index,run_underlying Tryz.underlying173,asIntOf,go_sem,numZ,loZ,hiZ]
theorem rng_all {c:Cf}:Rng c↔∀j,j<8→loZ j≤numZ c j∧numZ c j≤hiZ j:=by
 constructor
 ·intro r j hj
  obtain⟨_,_,_,_,_,_,_,_,_,_,_,_,_,_,_,_⟩:=r
  obtain rfl | rfl | rfl | rfl | rfl | rfl | rfl | rfl:j=0∨j=1∨j=2∨j=3∨j=4∨j=5∨j=6∨j=7:=by omega
  all_goals simp only [numZ,loZ,hiZ]
  all_goals omega
 ·intro h
  have h0:=h 0 (by omega)
  have h1:=h 1 (by omega)
  have h2:=h 2 (by omega)
  have h3:=h 3 (by omega)
  have h4:=h 4 (by omega)
  have h5:=h 5 (by omega)
  have h6:=h 6 (by omega)
  have h7:=h 7 (by omega)
  exact⟨h0.1,h0.2,h1.1,h1.2,h2.1,h2.2,h3.1,h3.2,h4.1,h4.2,h5.1,h5.2,h6.1,h6.2,h7.1,h7.2⟩
set_option maxHeartbeats 2000000 in
set_option maxRecDepth 20000 in
theorem prefuse_ranges (c:Cf) {v0:Int} (hy:Rng c→v0=0) (hn:¬Rng c→v0=110) (w:World):Calls Tryz.prog 86 #[cfV c] w fun e w'=>e=.returned (.int .i64 v0)∧Below w.heap.size w w':=by
 have HY:Hid (Rng c→v0=0):=hy
 have HN:Hid (¬Rng c→v0=110):=hn
 clear hy hn
 unfold cfV
 go_enter Tryz.func86,Tryz.ntmps86
 go_wp2
 go_loopg [30] 8 (fun gk v wr=>∃j:Nat,j+gk=8∧v=.int .i64 (j:Int)∧Below w.heap.size w wr∧∀i,i<j→loZ i≤numZ c i∧numZ c i≤hiZ i)
 case atStart=>exact⟨0,by omega,rfl,(Below.refl _ _).alloc (Nat.le_refl _) _,fun i hi=>absurd hi (by omega)⟩
 case round=>
  obtain⟨j,hj,rfl,hB,hinv⟩:=hrel
  replace hinv:Hid (∀i,i<j→loZ i≤numZ c i∧numZ c i≤hiZ i):=hinv
  replace hB:Hid (Below w.heap.size w wr):=hB
  by_cases hlt:j<8
  ·have hlt':(j:Int)<8:=by omega
   have hi:=idx_rng c hlt
   have hB2:Hid (Below w.heap.size w (wr.alloc (.cells #[.int .i64 (numZ c j),.int .i64 (loZ j),.int .i64 (hiZ j)] 172))):=hB.out.alloc hB.out.size _
   by_cases h1:numZ c j<loZ j
   ·have e0:v0=110:=HN.out fun r=>by have:=(rng_all.1 r j hlt).1;omega
    replace e0:Hid (v0=110):=e0
    clear HY HN hinv
    go_wp2
    go_ret
    exact⟨by rw [e0.out];rfl,hB2.out⟩
   ·by_cases h2:hiZ j<numZ c j
    ·have e0:v0=110:=HN.out fun r=>by have:=(rng_all.1 r j hlt).2;omega
     replace e0:Hid (v0=110):=e0
     clear HY HN hinv
     go_wp2
     go_ret
     exact⟨by rw [e0.out];rfl,hB2.out⟩
    ·have hnx:Hid (∀i,i<j+1→loZ i≤numZ c i∧numZ c i≤hiZ i):=fun i hi=>by
      by_cases he:i=j
      ·subst he;omega
      ·exact hinv.out i (by omega)
     clear hinv
     go_wp2
     go_roundg (8 - (j+1))
     case measure=>omega
     case rel=>exact⟨j+1,by omega,by go_num,hB2.out,hnx.out⟩
  ·obtain rfl:j=8:=by omega
   have e0:v0=0:=HY.out (rng_all.2 hinv.out)
   replace e0:Hid (v0=0):=e0
   clear HY HN hinv
   go_wp2
   go_ret
   exact⟨by rw [e0.out];rfl,hB.out⟩
end Go.Proofs.YtceoibfliggalaaGreatDoor
namespace Go.Proofs.YtceoibfliggalaaGreatDoor
open Go.RowKit Wd Cg
theorem idx_fn (a b c d:Value) (w:World):(Instr.index 120 (.agg #[a,b,c,d]) (.int .i64 0)).run Tryz.prog w=.ok a w∧(Instr.index 120 (.agg #[a,b,c,d]) (.int .i64 1)).run Tryz.prog w=.ok b w∧(Instr.index 120 (.agg #[a,b,c,d]) (.int .i64 2)).run Tryz.prog w=.ok c w∧(Instr.index 120 (.agg #[a,b,c,d]) (.int .i64 3)).run Tryz.prog w=.ok d w:=by
 refine⟨?_,?_,?_,?_⟩
 all_goals simp [Instr.index,run_underlying Tryz.underlying120,asIntOf,go_sem]
set_option maxHeartbeats 2000000 in
set_option maxRecDepth 20000 in
theorem pcheck_walk {c:Cf} {e0 e1 e2 e3 v0:Int} (c0:∀w,Calls Tryz.prog 86 #[cfV c] w fun e w'=>e=.returned (.int .i64 e0)∧Below w.heap.size w w')
  (c1:e0=0→∀w,Calls Tryz.prog 87 #[cfV c] w fun e w'=>e=.returned (.int .i64 e1)∧Below w.heap.size w w')
  (c2:e0=0→e1=0→∀w,Calls Tryz.prog 88 #[cfV c] w fun e w'=>e=.returned (.int .i64 e2)∧Below w.heap.size w w')
  (c3:e0=0→e1=0→e2=0→∀w,Calls Tryz.prog 89 #[cfV c] w fun e w'=>e=.returned (.int .i64 e3)∧Below w.heap.size w w')
  (hv:v0=if e0=0 then(if e1=0 then(if e2=0 then e3 else e2)else e1)else e0) (w:World):
  Calls Tryz.prog 40 #[cfV c] w fun e w'=>e=.returned (.int .i64 v0)∧Below w.heap.size w w':=by
 replace hv:Hid (v0=if e0=0 then(if e1=0 then(if e2=0 then e3 else e2)else e1)else e0):=hv
 replace c1:Hid (e0=0→∀w,Calls Tryz.prog 87 #[cfV c] w fun e w'=>e=.returned (.int .i64 e1)∧Below w.heap.size w w'):=c1
 replace c2:Hid (e0=0→e1=0→∀w,Calls Tryz.prog 88 #[cfV c] w fun e w'=>e=.returned (.int .i64 e2)∧Below w.heap.size w w'):=c2
 replace c3:Hid (e0=0→e1=0→e2=0→∀w,Calls Tryz.prog 89 #[cfV c] w fun e w'=>e=.returned (.int .i64 e3)∧Below w.heap.size w w'):=c3
 unfold cfV at *
 go_enter Tryz.func40,Tryz.ntmps40
 go_wp2
 go_loopg [17] 4 (fun gk v wr=>∃i:Int,i+gk=4∧0≤i∧v=.int .i64 i∧Below w.heap.size w wr∧(1≤i→e0=0)∧(2≤i→e1=0)∧(3≤i→e2=0)∧(4≤i→e3=0))
 case atStart=>exact⟨0,by omega,by omega,rfl,((Below.refl _ _).alloc (Nat.le_refl _) _).alloc (by simp) _,by omega,by omega,by omega,by omega⟩
 case round=>
  obtain⟨i,hi,hi0,rfl,hB,h0,h1,h2,h3⟩:=hrel
  replace hB:Hid (Below w.heap.size w wr):=hB
  have ix:=idx_fn
  obtain rfl | rfl | rfl | rfl | rfl:i=0∨i=1∨i=2∨i=3∨i=4:=by omega
  ·have ck:∀w,Calls Tryz.prog 86 #[.agg #[.int .i64 c.nodes,.int .i64 c.queue,.int .i64 c.limit,.int .i64 c.age,.int .i64 c.fair,.int .i64 c.size,.int .i64 c.period,.int .i64 c.half]] w fun e w'=>e=.returned (.int .i64 e0)∧Below w.heap.size w w':=c0
   by_cases hz:e0=0
   ·have HR:Hid ((1≤(1:Int)→e0=0)∧(2≤(1:Int)→e1=0)∧(3≤(1:Int)→e2=0)∧(4≤(1:Int)→e3=0)):=⟨fun _=>by first | exact hz | exact h0 (by omega),fun h=>by first | exact hz | exact h1 (by omega) | omega,fun h=>by first | exact hz | exact h2 (by omega) | omega,fun h=>by first | exact hz | omega⟩
    have hzn:(e0 != 0)=false:=by simp [hz]
    replace hz:Hid (e0=0):=hz
    clear h0 h1 h2 h3 hz
    go_wp2_with fail
    refine(ck _).mono ?_
    rintro e w1 ⟨rfl,b1⟩
    have B1:Hid (Below w.heap.size w w1):=hB.out.trans (b1.mono hB.out.size)
    clear b1
    go_wp2
    go_roundg 3
    case measure=>omega
    case rel=>exact⟨1,by omega,by omega,by go_num,B1.out,HR.out⟩
   ·have HV:Hid (v0=e0):=by
     have h:=hv.out
     rw [if_neg hz]at h
     exact h
    have hzn:(e0 != 0)=true:=by simp [hz]
    clear h0 h1 h2 h3
    go_wp2_with fail
    refine(ck _).mono ?_
    rintro e w1 ⟨rfl,b1⟩
    have B1:Hid (Below w.heap.size w w1):=hB.out.trans (b1.mono hB.out.size)
    clear b1
    go_wp2
    go_ret
    exact⟨by rw [HV.out];rfl,B1.out⟩
  ·have ck:∀w,Calls Tryz.prog 87 #[.agg #[.int .i64 c.nodes,.int .i64 c.queue,.int .i64 c.limit,.int .i64 c.age,.int .i64 c.fair,.int .i64 c.size,.int .i64 c.period,.int .i64 c.half]] w fun e w'=>e=.returned (.int .i64 e1)∧Below w.heap.size w w':=(c1.out (h0 (by omega)))
   by_cases hz:e1=0
   ·have HR:Hid ((1≤(2:Int)→e0=0)∧(2≤(2:Int)→e1=0)∧(3≤(2:Int)→e2=0)∧(4≤(2:Int)→e3=0)):=⟨fun _=>by first | exact hz | exact h0 (by omega),fun h=>by first | exact hz | exact h1 (by omega) | omega,fun h=>by first | exact hz | exact h2 (by omega) | omega,fun h=>by first | exact hz | omega⟩
    have hzn:(e1 != 0)=false:=by simp [hz]
    replace hz:Hid (e1=0):=hz
    clear h0 h1 h2 h3 hz
    go_wp2_with fail
    refine(ck _).mono ?_
    rintro e w1 ⟨rfl,b1⟩
    have B1:Hid (Below w.heap.size w w1):=hB.out.trans (b1.mono hB.out.size)
    clear b1
    go_wp2
    go_roundg 2
    case measure=>omega
    case rel=>exact⟨2,by omega,by omega,by go_num,B1.out,HR.out⟩
   ·have HV:Hid (v0=e1):=by
     have h:=hv.out
     rw [if_pos (h0 (by omega)),if_neg hz]at h
     exact h
    have hzn:(e1 != 0)=true:=by simp [hz]
    clear h0 h1 h2 h3
    go_wp2_with fail
    refine(ck _).mono ?_
    rintro e w1 ⟨rfl,b1⟩
    have B1:Hid (Below w.heap.size w w1):=hB.out.trans (b1.mono hB.out.size)
    clear b1
    go_wp2
    go_ret
    exact⟨by rw [HV.out];rfl,B1.out⟩
  ·have ck:∀w,Calls Tryz.prog 88 #[.agg #[.int .i64 c.nodes,.int .i64 c.queue,.int .i64 c.limit,.int .i64 c.age,.int .i64 c.fair,.int .i64 c.size,.int .i64 c.period,.int .i64 c.half]] w fun e w'=>e=.returned (.int .i64 e2)∧Below w.heap.size w w':=(c2.out (h0 (by omega)) (h1 (by omega)))
   by_cases hz:e2=0
   ·have HR:Hid ((1≤(3:Int)→e0=0)∧(2≤(3:Int)→e1=0)∧(3≤(3:Int)→e2=0)∧(4≤(3:Int)→e3=0)):=⟨fun _=>by first | exact hz | exact h0 (by omega),fun h=>by first | exact hz | exact h1 (by omega) | omega,fun h=>by first | exact hz | exact h2 (by omega) | omega,fun h=>by first | exact hz | omega⟩
    have hzn:(e2 != 0)=false:=by simp [hz]
    replace hz:Hid (e2=0):=hz
    clear h0 h1 h2 h3 hz
    go_wp2_with fail
    refine(ck _).mono ?_
    rintro e w1 ⟨rfl,b1⟩
    have B1:Hid (Below w.heap.size w w1):=hB.out.trans (b1.mono hB.out.size)
    clear b1
    go_wp2
    go_roundg 1
    case measure=>omega
    case rel=>exact⟨3,by omega,by omega,by go_num,B1.out,HR.out⟩
   ·have HV:Hid (v0=e2):=by
     have h:=hv.out
     rw [if_pos (h0 (by omega)),if_pos (h1 (by omega)),if_neg hz]at h
     exact h
    have hzn:(e2 != 0)=true:=by simp [hz]
    clear h0 h1 h2 h3
    go_wp2_with fail
    refine(ck _).mono ?_
    rintro e w1 ⟨rfl,b1⟩
    have B1:Hid (Below w.heap.size w w1):=hB.out.trans (b1.mono hB.out.size)
    clear b1
    go_wp2
    go_ret
    exact⟨by rw [HV.out];rfl,B1.out⟩
  ·have ck:∀w,Calls Tryz.prog 89 #[.agg #[.int .i64 c.nodes,.int .i64 c.queue,.int .i64 c.limit,.int .i64 c.age,.int .i64 c.fair,.int .i64 c.size,.int .i64 c.period,.int .i64 c.half]] w fun e w'=>e=.returned (.int .i64 e3)∧Below w.heap.size w w':=(c3.out (h0 (by omega)) (h1 (by omega)) (h2 (by omega)))
   by_cases hz:e3=0
   ·have HR:Hid ((1≤(4:Int)→e0=0)∧(2≤(4:Int)→e1=0)∧(3≤(4:Int)→e2=0)∧(4≤(4:Int)→e3=0)):=⟨fun _=>by first | exact hz | exact h0 (by omega),fun h=>by first | exact hz | exact h1 (by omega) | omega,fun h=>by first | exact hz | exact h2 (by omega) | omega,fun h=>by first | exact hz | omega⟩
    have hzn:(e3 != 0)=false:=by simp [hz]
    replace hz:Hid (e3=0):=hz
    clear h0 h1 h2 h3 hz
    go_wp2_with fail
    refine(ck _).mono ?_
    rintro e w1 ⟨rfl,b1⟩
    have B1:Hid (Below w.heap.size w w1):=hB.out.trans (b1.mono hB.out.size)
    clear b1
    go_wp2
    go_roundg 0
    case measure=>omega
    case rel=>exact⟨4,by omega,by omega,by go_num,B1.out,HR.out⟩
   ·have HV:Hid (v0=e3):=by
     have h:=hv.out
     rw [if_pos (h0 (by omega)),if_pos (h1 (by omega)),if_pos (h2 (by omega))]at h
     exact h
    have hzn:(e3 != 0)=true:=by simp [hz]
    clear h0 h1 h2 h3
    go_wp2_with fail
    refine(ck _).mono ?_
    rintro e w1 ⟨rfl,b1⟩
    have B1:Hid (Below w.heap.size w w1):=hB.out.trans (b1.mono hB.out.size)
    clear b1
    go_wp2
    go_ret
    exact⟨by rw [HV.out];rfl,B1.out⟩
  ·have HV:Hid (v0=0):=by
    have h:=hv.out
    rw [if_pos (h0 (by omega)),if_pos (h1 (by omega)),if_pos (h2 (by omega)),h3 (by omega)]at h
    exact h
   clear h0 h1 h2 h3
   go_wp2
   go_ret
   exact⟨by rw [HV.out];rfl,hB.out⟩
theorem pcheck_any (c:Cf) (w:World):Calls Tryz.prog 40 #[cfV c] w fun e w'=>e=.returned (.int .i64 (chkZ c))∧Below w.heap.size w w':=by
 unfold chkZ
 by_cases r:Rng c
 ·rw [if_neg (fun h=>h r)]
  by_cases hm:2147483648<mZ c
  ·rw [if_pos hm]
   exact pcheck_walk (e2:=0) (e3:=0) (prefuse_ranges c (fun _=>rfl) (fun h=>absurd r h)) (fun _=>prefuse_usage r) (fun _ h=>absurd h (by rw [if_pos hm];omega)) (fun _ h=>absurd h (by rw [if_pos hm];omega)) (by rw [if_pos rfl,if_pos hm,if_neg (by omega)]) w
  ·rw [if_neg hm]
   exact pcheck_walk (prefuse_ranges c (fun _=>rfl) (fun h=>absurd r h)) (fun _=>prefuse_usage r) (fun _ _=>prefuse_scale r) (fun _ _ _=>prefuse_rounding r (by omega)) (by rw [if_pos rfl,if_neg hm,if_pos rfl,if_pos rfl]) w
 ·rw [if_pos r]
  exact pcheck_walk (e1:=0) (e2:=0) (e3:=0) (prefuse_ranges c (fun h=>absurd h r) (fun _=>rfl)) (fun h=>absurd h (by omega)) (fun h=>absurd h (by omega)) (fun h=>absurd h (by omega)) (by rw [if_neg (by omega)]) w
end Go.Proofs.YtceoibfliggalaaGreatDoor
