/-
  TEXTS: Ldr.
-/
import Derived.Test.YtceoibfliggalaaGreatDoorKr2
import Derived.Test.YtceoibfliggalaaGreatDoorKr3
import Derived.WalkMore
import Derived.Deep.LoopGhost
namespace Go.Proofs.YtceoibfliggalaaGreatDoor
open Go.RowKit Wd Ld
def Tab (w:World):Prop:=∀j,j<32→w.cell? ⟨0,j,none⟩=some (.int .u64 (R j:Nat))
theorem Tab.below {w w':World} (h:Below w.heap.size w w') (hT:Tab w):Tab w':=fun j hj=>keepC h (hT j hj)
end Go.Proofs.YtceoibfliggalaaGreatDoor
namespace Go.Proofs.YtceoibfliggalaaGreatDoor
open Go.RowKit Wd Ld
namespace Ld
theorem mask_int (k:Nat) (hk:k<32):(4294967296:Int) / 2^(k+1)=((2^(31 - k):Nat):Int):=by
 have e:(4294967296:Nat) / 2^(k+1)=2^(31 - k):=by
  rw [show (4294967296:Nat)=2^(31 - k)*2^(k+1) by rw [← Nat.pow_add,show 31 - k+(k+1)=32 by omega]]
  exact Nat.mul_div_cancel _ (Nat.pow_pos (by decide))
 rw [← e,Int.natCast_ediv,Int.natCast_pow]
 rfl
theorem and_pow (f k:Nat):f &&& 2^k=if f.testBit k=true then 2^k else 0:=by
 apply Nat.eq_of_testBit_eq
 intro i
 rw [Nat.testBit_and,Nat.testBit_two_pow]
 by_cases hi:k=i
 ·subst hi;split<;>simp_all
 ·split<;>simp_all
theorem bit_and (f k:Nat) (hf:f<4294967296) (hk:k<32):bits .and .u64 (f:Int) (4294967296 / 2^(k+1))=(if f / 2^(31 - k) % 2=1 then((2^(31 - k):Nat):Int)else 0):=by
 have h31:2^(31 - k)≤2^31:=two_pow_le (by omega)
 rw [mask_int k hk]
 refine(bits_and_u64_nat f (2^(31 - k)) (by omega) (by omega)).trans ?_
 rw [and_pow,Nat.testBit_eq_decide_div_mod_eq]
 by_cases h:f / 2^(31 - k) % 2=1
 ·rw [if_pos (by simp [h]),if_pos h]
 ·rw [if_neg (by simpa using h),if_neg h];rfl
theorem bit_yes {f k:Nat} (hf:f<4294967296) (hk:k<32) (h:f / 2^(31 - k) % 2=1):(bits .and .u64 (f:Int) (4294967296 / 2^(k+1)) != 0)=true:=by
 rw [bit_and f k hf hk,if_pos h]
 have:0<2^(31 - k):=Nat.pow_pos (by decide)
 simp only [bne_iff_ne,ne_eq]
 omega
theorem bit_no {f k:Nat} (hf:f<4294967296) (hk:k<32) (h:¬f / 2^(31 - k) % 2=1):(bits .and .u64 (f:Int) (4294967296 / 2^(k+1)) != 0)=false:=by
 rw [bit_and f k hf hk,if_neg h];rfl
theorem steps_yes {f k:Nat} (h:f / 2^(31 - k) % 2=1):hiW ((steps f k:Nat)*(R k:Nat):Int)=(steps f (k+1):Nat):=by
 simp only [steps,if_pos h,hiW]
 rw [Int.natCast_ediv,Int.natCast_mul]
 rfl
theorem steps_no {f k:Nat} (h:¬f / 2^(31 - k) % 2=1):steps f (k+1)=steps f k:=by
 simp only [steps,if_neg h]
theorem steps_word (f k:Nat) (hk:k≤32):Word (steps f k:Nat):=by
 have:=steps_top f k hk
 exact⟨by omega,by omega⟩
theorem R_word (k:Nat) (hk:k<32):Word (R k:Nat):=by
 have:=rung_top k hk
 exact⟨by omega,by omega⟩
end Ld
set_option maxRecDepth 20000 in
set_option maxHeartbeats 1000000 in
theorem stepped_any (f:Nat) (hf:f<4294967296) (w:World) (hT:Tab w):Calls Tryz.prog 186 #[.int .u64 f] w fun e w'=>e=.returned (.int .u64 (steps f 32:Nat))∧Below w.heap.size w w':=by
 go_enter Tryz.func186,Tryz.ntmps186
 go_wp2
 go_loopw [3,5] (fun r i wr=>∃k:Nat,k≤32∧i=.int .i64 k∧r=.int .u64 (steps f k:Nat)∧Below w.heap.size w wr) (fun _ i _=>32 - (intOf i).toNat)
 case atStart=>exact⟨0,by omega,rfl,rfl,Below.refl _ _⟩
 case round=>
  obtain⟨k,hk,rfl,rfl,hb⟩:=hrel
  by_cases hlt:k<32
  ·by_cases hbit:f / 2^(31 - k) % 2=1
   ·have ht:=bit_yes hf hlt hbit
    have hc:=Tab.below hb hT k hlt
    have es:=steps_yes hbit
    have ES:Hid _:=es
    have HB:Hid _:=hbit
    clear es hbit
    go_wp2_with (go_at_call 160;refine(mul_any _ _ (steps_word f k hk) (R_word k hlt) _).mono ?_;rintro e w1 ⟨rfl,hb1⟩)
    rename_i K hK
    change K (Act.put _ (some 19) (.int .u64 (hiW ((steps f k:Nat)*(R k:Nat):Int)))) w1
    go_wp2
    go_roundw
    case rel=>
     refine⟨k+1,by omega,by go_num,by rw [← ES.out],hb.trans (hb1.mono hb.size)⟩
    case measure=>simp [intOf];omega
   ·have ht:=bit_no hf hlt hbit
    have ES:Hid _:=steps_no hbit
    clear hbit
    go_wp2
    go_roundw
    case rel=>
     exact⟨k+1,by omega,by go_num,by rw [ES.out],hb⟩
    case measure=>simp [intOf];omega
  ·obtain rfl:k=32:=by omega
   go_wp2
   go_ret
   exact⟨rfl,hb⟩
end Go.Proofs.YtceoibfliggalaaGreatDoor
namespace Go.Proofs.YtceoibfliggalaaGreatDoor
open Go.RowKit Wd Ld
namespace Ld
theorem half_zero {e:Nat} (h:63≤e / 4294967296):halfN e=0:=by unfold halfN;rw [if_pos h]
theorem half_some {e:Nat} (h:¬63≤e / 4294967296):((halfN e:Nat):Int)=((steps (e % 4294967296) 32:Nat):Int) / 2^(e / 4294967296):=by
 unfold halfN;rw [if_neg h,Int.natCast_ediv,Int.natCast_pow];rfl
end Ld
set_option maxHeartbeats 1000000 in
theorem half_any (e:Nat) (he:e<18446744073709551616) (w:World) (hT:Tab w):Calls Tryz.prog 169 #[.int .u64 e] w fun r w'=>r=.returned (.int .u64 (halfN e:Nat))∧Below w.heap.size w w':=by
 have hq:(e:Int) / 4294967296=((e / 4294967296:Nat):Int):=by omega
 have hm:(e:Int) % 4294967296=((e % 4294967296:Nat):Int):=by omega
 have hn:e / 4294967296<4294967296:=by omega
 have hf:e % 4294967296<4294967296:=Nat.mod_lt _ (by decide)
 by_cases h:63≤e / 4294967296
 ·rw [half_zero h]
  clear hf hm
  generalize e / 4294967296=n at *
  go_enter Tryz.func169,Tryz.ntmps169
  go_wp2
  go_ret
  exact⟨rfl,Below.refl _ _⟩
 ·rw [half_some h]
  generalize e / 4294967296=n at *
  generalize e % 4294967296=f at *
  go_enter Tryz.func169,Tryz.ntmps169
  go_wp2_with (go_at_call 186;refine(stepped_any f hf _ hT).mono ?_;rintro e w1 ⟨rfl,hb1⟩)
  go_ret
  exact⟨rfl,hb1⟩
end Go.Proofs.YtceoibfliggalaaGreatDoor
