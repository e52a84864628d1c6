/-
  TEXTS: AdA.
-/
import Derived.Test.YtceoibfliggalaaGreatDoorKw8
import Derived.Test.YtceoibfliggalaaGreatDoorKw31
import Derived.Recover
namespace Go.Proofs.YtceoibfliggalaaGreatDoor
open Go.RowKit Wd Tr Cg Lg
def thrown (E:Int):List PanicEntry:= [{v:=.iface 36 (.int .i64 E),recovered:=false}]
def asksE (b:Bool) (E:Int):Ending:=if b then .returned (.tuple #[])else .panicked (thrown E)
theorem asksE_yes (E:Int):asksE true E=.returned (.tuple #[]):=rfl
theorem asksE_no (E:Int):asksE false E=.panicked (thrown E):=rfl
theorem need_yes (E:Int) (w:World):Calls Tryz.prog 103 #[.bool true,.int .i64 E] w fun e w'=>e=.returned (.tuple #[])∧w'=w:=by
 go_enter Tryz.func103,Tryz.ntmps103
 go_wp2
 go_end0
 exact⟨rfl,rfl⟩
theorem need_no (E:Int) (w:World):Calls Tryz.prog 103 #[.bool false,.int .i64 E] w fun e w'=>e=.panicked (thrown E)∧w'=w:=by
 go_enter Tryz.func103,Tryz.ntmps103
 go_wp2
 exact⟨rfl,rfl,rfl⟩
theorem need_any (b:Bool) (E:Int) (w:World):Calls Tryz.prog 103 #[.bool b,.int .i64 E] w fun e w'=>e=asksE b E∧w'=w:=by
 cases b with
 | true=>exact need_yes E w
 | false=>exact need_no E w
def fromB (a b n:Int):Bool:=decide (a≤n)&&decide (n≤b)
theorem from_any (a b n:Int) (w:World):Calls Tryz.prog 104 #[.int .i64 a,.int .i64 b,.int .i64 n] w fun e w'=>e=.returned (.bool (fromB a b n))∧w'=w:=by
 by_cases h:a≤n
 ·go_enter Tryz.func104,Tryz.ntmps104
  go_wp2
  go_ret
  exact⟨by simp [fromB,h],rfl⟩
 ·go_enter Tryz.func104,Tryz.ntmps104
  go_wp2
  go_ret
  exact⟨by rw [fromB,decide_eq_false (by omega)];rfl,rfl⟩
def cmpV (a b:Int):Int:=if a<b then -1 else if b<a then 1 else 0
theorem isNaN_any (a:Int) (w:World):Calls Tryz.prog 179 #[.int .i64 a] w fun e w'=>e=.returned (.bool false)∧w'=w:=by
 go_enter Tryz.func179,Tryz.ntmps179
 go_wp2
 go_ret
 exact⟨by simp,rfl⟩
theorem comp_any (a b:Int) (w:World):Calls Tryz.prog 152 #[.int .i64 a,.int .i64 b] w fun e w'=>e=.returned (.int .i64 (cmpV a b))∧w'=w:=by
 have hn:=isNaN_any
 by_cases h:a<b
 ·have e:cmpV a b= -1:=by simp [cmpV,h]
  rw [e]
  go_enter Tryz.func152,Tryz.ntmps152
  go_wp2_with (go_at_call 179;refine(hn _ _).mono ?_;rintro e w1 ⟨rfl,rfl⟩)
  go_ret
  exact⟨rfl,rfl⟩
 ·by_cases g:b<a
  ·have e:cmpV a b=1:=by simp [cmpV,h,g]
   rw [e]
   go_enter Tryz.func152,Tryz.ntmps152
   go_wp2_with (go_at_call 179;refine(hn _ _).mono ?_;rintro e w1 ⟨rfl,rfl⟩)
   go_ret
   exact⟨rfl,rfl⟩
  ·have e:cmpV a b=0:=by simp [cmpV,h,g]
   rw [e]
   go_enter Tryz.func152,Tryz.ntmps152
   go_wp2_with (go_at_call 179;refine(hn _ _).mono ?_;rintro e w1 ⟨rfl,rfl⟩)
   go_ret
   exact⟨rfl,rfl⟩
theorem clo_any (a b:Int) (p q:Bool) (s1 s2:Option Addr) (l1 c1 l2 c2:Nat) (w:World):Calls Tryz.prog 151 #[.agg #[.int .i64 a,.bool p,.slice s1 l1 c1],.agg #[.int .i64 b,.bool q,.slice s2 l2 c2]] w fun e w'=>e=.returned (.int .i64 (cmpV a b))∧Below w.heap.size w w':=by
 have hc:=comp_any
 go_enter Tryz.func151,Tryz.ntmps151
 go_wp2_with (go_at_call 152;refine(hc _ _ _).mono ?_;rintro e w1 ⟨rfl,rfl⟩)
 go_ret
 exact⟨rfl,by repeat first | exact Below.refl _ _ | refine Below.alloc ?_ (by simp) _⟩
end Go.Proofs.YtceoibfliggalaaGreatDoor
