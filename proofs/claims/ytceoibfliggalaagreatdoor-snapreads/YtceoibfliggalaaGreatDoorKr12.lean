/-
  TEXTS: RuB, RuD, RuC.
-/
import Derived.Test.YtceoibfliggalaaGreatDoorKr10
import Derived.Deep.CutBlock
import Derived.Deep.DeepCutAuto
namespace Go.Proofs.YtceoibfliggalaaGreatDoor
open Go.RowKit Wd Tr Cg Lg
def stL (c:Cf) (now:Int) (ao:Option Addr) (na ca:Nat) (jo:Option Addr) (nj cj:Nat) (hd:Int):Array Value:= #[.int .i64 c.nodes,.int .i64 c.queue,.int .i64 c.limit,.int .i64 c.age,.int .i64 c.fair,.int .i64 c.size,.int .i64 c.period,.int .i64 c.half,.int .i64 now,.slice ao na ca,.slice jo nj cj,.int .i64 hd]
set_option maxRecDepth 20000 in
set_option maxHeartbeats 4000000 in
theorem utimes_any {w:World} (c:Cf) (now:Int) (ao:Option Addr) (na ca:Nat) (jo:Option Addr) (nj cj:Nat) (hd:Int) (p:Pj) (hS:IntsAt w p.sa p.v.set) (hl:p.v.set.length≤140737488355328) (hb:0≤p.v.sb) (hnow:now≤1099511627776) (hlm:0≤p.v.lm∧p.v.lm≤1048576):
  Calls Tryz.prog 84 #[.agg (stL c now ao na ca jo nj cj hd),pjV p] w fun e w'=>e=.returned (.bool (timesB c now p.v))∧Below w.heap.size w w':=by
 have b2:∀x y,Below w.heap.size w ((w.alloc x).alloc y):=fun x y=>((Below.refl _ w).alloc (Nat.le_refl _) _).alloc (by simp) _
 have cS:Hid (∀x,Below w.heap.size w x→Calls Tryz.prog 128 #[cfV c,pjV p] x fun e w'=>e=.returned (.bool (setB c.nodes p.v))∧Below x.heap.size x w'):=fun x hx=>rset_any c p (hS.below hx) hl
 have HB2:Hid (∀x y,Below w.heap.size w ((w.alloc x).alloc y)):=b2
 clear hS b2
 obtain⟨⟨ac,nd,lm,sb,st,sr,en,xs⟩,sa,sc⟩:=p
 unfold cfV pjV at cS
 unfold stL pjV
 dsimp only at hl hb hlm cS ⊢
 by_cases e1:st=1
 ·subst e1
  clear cS
  by_cases h0:¬(sr=0)
  ·have HT:Hid (timesB c now ⟨ac,nd,lm,sb,1,sr,en,xs⟩=false):=(show timesB c now ⟨ac,nd,lm,sb,1,sr,en,xs⟩=false by simp [timesB,h0])
   have n0:(sr==0)=false:=by simpa using h0
   go_enter Tryz.func84,Tryz.ntmps84
   go_wp2
   go_ret
   exact⟨by rw [HT.out];rfl,HB2.out _ _⟩
  replace h0:=Decidable.not_not.1 h0
  subst h0
  by_cases h1:¬(en=0)
  ·have HT:Hid (timesB c now ⟨ac,nd,lm,sb,1,0,en,xs⟩=false):=(show timesB c now ⟨ac,nd,lm,sb,1,0,en,xs⟩=false by simp [timesB,h1])
   have n1:(en==0)=false:=by simpa using h1
   go_enter Tryz.func84,Tryz.ntmps84
   go_wp2
   go_ret
   exact⟨by rw [HT.out];rfl,HB2.out _ _⟩
  replace h1:=Decidable.not_not.1 h1
  subst h1
  by_cases h2:¬(xs= [])
  ·have HT:Hid (timesB c now ⟨ac,nd,lm,sb,1,0,0,xs⟩=false):=(show timesB c now ⟨ac,nd,lm,sb,1,0,0,xs⟩=false by simp [timesB,h2])
   have n2:(((xs.length:Nat):Int)==0)=false:=by cases xs with | nil=>exact absurd rfl h2 | cons a b=>simp;omega
   go_enter Tryz.func84,Tryz.ntmps84
   go_wp2
   go_ret
   exact⟨by rw [HT.out];rfl,HB2.out _ _⟩
  replace h2:=Decidable.not_not.1 h2
  subst h2
  have HT:Hid (timesB c now ⟨ac,nd,lm,sb,1,0,0,[]⟩=true):=(show timesB c now ⟨ac,nd,lm,sb,1,0,0,[]⟩=true by simp [timesB])
  go_enter Tryz.func84,Tryz.ntmps84
  go_wp2
  go_ret
  exact⟨by rw [HT.out];rfl,HB2.out _ _⟩
 by_cases e6:st=6
 ·subst e6
  clear cS e1
  by_cases h0:¬(sr=0)
  ·have HT:Hid (timesB c now ⟨ac,nd,lm,sb,6,sr,en,xs⟩=false):=(show timesB c now ⟨ac,nd,lm,sb,6,sr,en,xs⟩=false by simp [timesB,h0])
   have n0:(sr==0)=false:=by simpa using h0
   go_enter Tryz.func84,Tryz.ntmps84
   go_wp2
   go_ret
   exact⟨by rw [HT.out];rfl,HB2.out _ _⟩
  replace h0:=Decidable.not_not.1 h0
  subst h0
  by_cases h1:¬(sb≤en)
  ·have HT:Hid (timesB c now ⟨ac,nd,lm,sb,6,0,en,xs⟩=false):=(show timesB c now ⟨ac,nd,lm,sb,6,0,en,xs⟩=false by simp [timesB,h1])
   have n1:decide (sb≤en)=false:=decide_eq_false h1
   go_enter Tryz.func84,Tryz.ntmps84
   go_wp2
   go_ret
   exact⟨by rw [HT.out];rfl,HB2.out _ _⟩
  replace h1:=Decidable.not_not.1 h1
  by_cases h2:¬(en≤now)
  ·have HT:Hid (timesB c now ⟨ac,nd,lm,sb,6,0,en,xs⟩=false):=(show timesB c now ⟨ac,nd,lm,sb,6,0,en,xs⟩=false by simp [timesB,h1,h2])
   have n2:decide (en≤now)=false:=decide_eq_false h2
   go_enter Tryz.func84,Tryz.ntmps84
   go_wp2
   go_ret
   exact⟨by rw [HT.out];rfl,HB2.out _ _⟩
  replace h2:=Decidable.not_not.1 h2
  by_cases h3:¬(xs= [])
  ·have HT:Hid (timesB c now ⟨ac,nd,lm,sb,6,0,en,xs⟩=false):=(show timesB c now ⟨ac,nd,lm,sb,6,0,en,xs⟩=false by simp [timesB,h1,h2,h3])
   have n3:(((xs.length:Nat):Int)==0)=false:=by cases xs with | nil=>exact absurd rfl h3 | cons a b=>simp;omega
   go_enter Tryz.func84,Tryz.ntmps84
   go_wp2
   go_ret
   exact⟨by rw [HT.out];rfl,HB2.out _ _⟩
  replace h3:=Decidable.not_not.1 h3
  subst h3
  have HT:Hid (timesB c now ⟨ac,nd,lm,sb,6,0,en,[]⟩=true):=(show timesB c now ⟨ac,nd,lm,sb,6,0,en,[]⟩=true by simp [timesB,h1,h2])
  go_enter Tryz.func84,Tryz.ntmps84
  go_wp2
  go_ret
  exact⟨by rw [HT.out];rfl,HB2.out _ _⟩
 have cS2:=cS.out _ (HB2.out (.cells #[.int .i64 c.nodes,.int .i64 c.queue,.int .i64 c.limit,.int .i64 c.age,.int .i64 c.fair,.int .i64 c.size,.int .i64 c.period,.int .i64 c.half,.int .i64 now,.slice ao na ca,.slice jo nj cj,.int .i64 hd] 27) (.cells #[.int .i64 ac,.int .i64 nd,.int .i64 lm,.int .i64 sb,.int .i64 st,.int .i64 sr,.int .i64 en,.slice sa xs.length sc] 55))
 obtain⟨W,hW⟩:∃W,(w.alloc (.cells #[.int .i64 c.nodes,.int .i64 c.queue,.int .i64 c.limit,.int .i64 c.age,.int .i64 c.fair,.int .i64 c.size,.int .i64 c.period,.int .i64 c.half,.int .i64 now,.slice ao na ca,.slice jo nj cj,.int .i64 hd] 27)).alloc (.cells #[.int .i64 ac,.int .i64 nd,.int .i64 lm,.int .i64 sb,.int .i64 st,.int .i64 sr,.int .i64 en,.slice sa xs.length sc] 55)=W:=⟨_,rfl⟩
 have HW:Hid ((w.alloc (.cells #[.int .i64 c.nodes,.int .i64 c.queue,.int .i64 c.limit,.int .i64 c.age,.int .i64 c.fair,.int .i64 c.size,.int .i64 c.period,.int .i64 c.half,.int .i64 now,.slice ao na ca,.slice jo nj cj,.int .i64 hd] 27)).alloc (.cells #[.int .i64 ac,.int .i64 nd,.int .i64 lm,.int .i64 sb,.int .i64 st,.int .i64 sr,.int .i64 en,.slice sa xs.length sc] 55)=W):=hW
 have HBW:Hid (Below w.heap.size w W):=by rw [← hW];exact HB2.out _ _
 rw [hW]at cS2
 have c0:W.cell? ⟨w.heap.size,8,none⟩=some (.int .i64 now):=by rw [← hW];simp
 have c1:W.cell? ⟨w.heap.size+1,2,none⟩=some (.int .i64 lm):=by rw [← hW];simp
 have c2:W.cell? ⟨w.heap.size+1,3,none⟩=some (.int .i64 sb):=by rw [← hW];simp
 have c3:W.cell? ⟨w.heap.size+1,4,none⟩=some (.int .i64 st):=by rw [← hW];simp
 have c4:W.cell? ⟨w.heap.size+1,5,none⟩=some (.int .i64 sr):=by rw [← hW];simp
 have c5:W.cell? ⟨w.heap.size+1,6,none⟩=some (.int .i64 en):=by rw [← hW];simp
 have HC:Hid (W.cell? ⟨w.heap.size,8,none⟩=some (.int .i64 now)∧W.cell? ⟨w.heap.size+1,2,none⟩=some (.int .i64 lm)∧W.cell? ⟨w.heap.size+1,3,none⟩=some (.int .i64 sb)∧W.cell? ⟨w.heap.size+1,4,none⟩=some (.int .i64 st)∧W.cell? ⟨w.heap.size+1,5,none⟩=some (.int .i64 sr)∧W.cell? ⟨w.heap.size+1,6,none⟩=some (.int .i64 en)):=⟨c0,c1,c2,c3,c4,c5⟩
 clear hW cS c0 c1 c2 c3 c4 c5
 go_enter Tryz.func84,Tryz.ntmps84
 go_upto_region 6 with fail
 rw [HW.out]
 obtain⟨c0,c1,c2,c3,c4,c5⟩:=HC.out
 have k0:W.cell? ⟨w.heap.size,0,none⟩=some (.int .i64 c.nodes):=by rw [← HW.out];simp
 have k1:W.cell? ⟨w.heap.size,1,none⟩=some (.int .i64 c.queue):=by rw [← HW.out];simp
 have k2:W.cell? ⟨w.heap.size,2,none⟩=some (.int .i64 c.limit):=by rw [← HW.out];simp
 have k3:W.cell? ⟨w.heap.size,3,none⟩=some (.int .i64 c.age):=by rw [← HW.out];simp
 have k4:W.cell? ⟨w.heap.size,4,none⟩=some (.int .i64 c.fair):=by rw [← HW.out];simp
 have k5:W.cell? ⟨w.heap.size,5,none⟩=some (.int .i64 c.size):=by rw [← HW.out];simp
 have k6:W.cell? ⟨w.heap.size,6,none⟩=some (.int .i64 c.period):=by rw [← HW.out];simp
 have k7:W.cell? ⟨w.heap.size,7,none⟩=some (.int .i64 c.half):=by rw [← HW.out];simp
 have k8:W.cell? ⟨w.heap.size+1,0,none⟩=some (.int .i64 ac):=by rw [← HW.out];simp
 have k9:W.cell? ⟨w.heap.size+1,1,none⟩=some (.int .i64 nd):=by rw [← HW.out];simp
 have k10:W.cell? ⟨w.heap.size+1,7,none⟩=some (.slice sa xs.length sc):=by rw [← HW.out];simp
 go_wp2_with fail
 refine cS2.mono ?_
 rintro e x ⟨rfl,hx⟩
 have HBX:Hid (Below w.heap.size w x):=HBW.out.trans (hx.mono HBW.out.size)
 have d0:=cellB hx c0
 have d1:=cellB hx c1
 have d2:=cellB hx c2
 have d3:=cellB hx c3
 have d4:=cellB hx c4
 have d5:=cellB hx c5
 clear c0 c1 c2 c3 c4 c5 k0 k1 k2 k3 k4 k5 k6 k7 k8 k9 k10 hx cS2 HC HW HBW HB2
 have HSB:Hid (∀b,setB c.nodes ⟨ac,nd,lm,sb,st,sr,en,xs⟩=b→setB c.nodes ⟨ac,nd,lm,sb,st,sr,en,xs⟩=b):=fun _ h=>h
 cases hset:setB c.nodes ⟨ac,nd,lm,sb,st,sr,en,xs⟩with
 | false=>
  have HT:Hid (timesB c now ⟨ac,nd,lm,sb,st,sr,en,xs⟩=false):=(show timesB c now ⟨ac,nd,lm,sb,st,sr,en,xs⟩=false by simp [timesB,e1,e6,hset])
  clear hset HSB
  go_wp2
  go_ret
  exact⟨by rw [HT.out];rfl,HBX.out⟩
 | true=>
  have HSET:Hid (setB c.nodes ⟨ac,nd,lm,sb,st,sr,en,xs⟩=true):=hset
  clear hset HSB
  by_cases h20:sr≤sb
  ·have HT:Hid (timesB c now ⟨ac,nd,lm,sb,st,sr,en,xs⟩=false):=(show timesB c now ⟨ac,nd,lm,sb,st,sr,en,xs⟩=false by simp [timesB,e1,e6,HSET.out,h20])
   clear HSET
   go_wp2
   go_ret
   exact⟨by rw [HT.out];rfl,HBX.out⟩
  by_cases h21:now<sr
  ·have HT:Hid (timesB c now ⟨ac,nd,lm,sb,st,sr,en,xs⟩=false):=(show timesB c now ⟨ac,nd,lm,sb,st,sr,en,xs⟩=false by simp [timesB,e1,e6,HSET.out,h20,h21])
   clear HSET
   go_wp2
   go_ret
   exact⟨by rw [HT.out];rfl,HBX.out⟩
  have hw:IntKind.i64.wrap (sr+lm)=sr+lm:=by rw [IntKind.wrap_i64];omega
  by_cases e2:st=2
  ·subst e2
   by_cases h0:¬(now<sr+lm)
   ·have HT:Hid (timesB c now ⟨ac,nd,lm,sb,2,sr,en,xs⟩=false):=(show timesB c now ⟨ac,nd,lm,sb,2,sr,en,xs⟩=false by simp [timesB,HSET.out,h20,h21,h0])
    have n0:decide (now<sr+lm)=false:=decide_eq_false h0
    clear HSET
    go_wp2
    go_ret
    exact⟨by rw [HT.out];rfl,HBX.out⟩
   replace h0:=Decidable.not_not.1 h0
   by_cases h1:¬(en=0)
   ·have HT:Hid (timesB c now ⟨ac,nd,lm,sb,2,sr,en,xs⟩=false):=(show timesB c now ⟨ac,nd,lm,sb,2,sr,en,xs⟩=false by simp [timesB,HSET.out,h20,h21,h0,h1])
    have n1:(en==0)=false:=by simpa using h1
    clear HSET
    go_wp2
    go_ret
    exact⟨by rw [HT.out];rfl,HBX.out⟩
   replace h1:=Decidable.not_not.1 h1
   subst h1
   have HT:Hid (timesB c now ⟨ac,nd,lm,sb,2,sr,0,xs⟩=true):=(show timesB c now ⟨ac,nd,lm,sb,2,sr,0,xs⟩=true by simp [timesB,HSET.out,h20,h21,h0])
   clear HSET
   go_wp2
   go_ret
   exact⟨by rw [HT.out];rfl,HBX.out⟩
  by_cases e3:st=3
  ·subst e3
   by_cases h0:¬(sr≤en)
   ·have HT:Hid (timesB c now ⟨ac,nd,lm,sb,3,sr,en,xs⟩=false):=(show timesB c now ⟨ac,nd,lm,sb,3,sr,en,xs⟩=false by simp [timesB,HSET.out,h20,h21,h0])
    have n0:decide (sr≤en)=false:=decide_eq_false h0
    clear HSET
    go_wp2
    go_ret
    exact⟨by rw [HT.out];rfl,HBX.out⟩
   replace h0:=Decidable.not_not.1 h0
   by_cases h1:¬(en<sr+lm)
   ·have HT:Hid (timesB c now ⟨ac,nd,lm,sb,3,sr,en,xs⟩=false):=(show timesB c now ⟨ac,nd,lm,sb,3,sr,en,xs⟩=false by simp [timesB,HSET.out,h20,h21,h0,h1])
    have n1:decide (en<sr+lm)=false:=decide_eq_false h1
    clear HSET
    go_wp2
    go_ret
    exact⟨by rw [HT.out];rfl,HBX.out⟩
   replace h1:=Decidable.not_not.1 h1
   by_cases h2:¬(en≤now)
   ·have HT:Hid (timesB c now ⟨ac,nd,lm,sb,3,sr,en,xs⟩=false):=(show timesB c now ⟨ac,nd,lm,sb,3,sr,en,xs⟩=false by simp [timesB,HSET.out,h20,h21,h0,h1,h2])
    have n2:decide (en≤now)=false:=decide_eq_false h2
    clear HSET
    go_wp2
    go_ret
    exact⟨by rw [HT.out];rfl,HBX.out⟩
   replace h2:=Decidable.not_not.1 h2
   have HT:Hid (timesB c now ⟨ac,nd,lm,sb,3,sr,en,xs⟩=true):=(show timesB c now ⟨ac,nd,lm,sb,3,sr,en,xs⟩=true by simp [timesB,HSET.out,h20,h21,h0,h1,h2])
   clear HSET
   go_wp2
   go_ret
   exact⟨by rw [HT.out];rfl,HBX.out⟩
  by_cases e5:st=5
  ·subst e5
   by_cases h0:¬(sr≤en)
   ·have HT:Hid (timesB c now ⟨ac,nd,lm,sb,5,sr,en,xs⟩=false):=(show timesB c now ⟨ac,nd,lm,sb,5,sr,en,xs⟩=false by simp [timesB,HSET.out,h20,h21,h0])
    have n0:decide (sr≤en)=false:=decide_eq_false h0
    clear HSET
    go_wp2
    go_ret
    exact⟨by rw [HT.out];rfl,HBX.out⟩
   replace h0:=Decidable.not_not.1 h0
   by_cases h1:¬(en<sr+lm)
   ·have HT:Hid (timesB c now ⟨ac,nd,lm,sb,5,sr,en,xs⟩=false):=(show timesB c now ⟨ac,nd,lm,sb,5,sr,en,xs⟩=false by simp [timesB,HSET.out,h20,h21,h0,h1])
    have n1:decide (en<sr+lm)=false:=decide_eq_false h1
    clear HSET
    go_wp2
    go_ret
    exact⟨by rw [HT.out];rfl,HBX.out⟩
   replace h1:=Decidable.not_not.1 h1
   by_cases h2:¬(en≤now)
   ·have HT:Hid (timesB c now ⟨ac,nd,lm,sb,5,sr,en,xs⟩=false):=(show timesB c now ⟨ac,nd,lm,sb,5,sr,en,xs⟩=false by simp [timesB,HSET.out,h20,h21,h0,h1,h2])
    have n2:decide (en≤now)=false:=decide_eq_false h2
    clear HSET
    go_wp2
    go_ret
    exact⟨by rw [HT.out];rfl,HBX.out⟩
   replace h2:=Decidable.not_not.1 h2
   have HT:Hid (timesB c now ⟨ac,nd,lm,sb,5,sr,en,xs⟩=true):=(show timesB c now ⟨ac,nd,lm,sb,5,sr,en,xs⟩=true by simp [timesB,HSET.out,h20,h21,h0,h1,h2])
   clear HSET
   go_wp2
   go_ret
   exact⟨by rw [HT.out];rfl,HBX.out⟩
  by_cases e4:st=4
  ·subst e4
   by_cases h0:¬(en=sr+lm)
   ·have HT:Hid (timesB c now ⟨ac,nd,lm,sb,4,sr,en,xs⟩=false):=(show timesB c now ⟨ac,nd,lm,sb,4,sr,en,xs⟩=false by simp [timesB,HSET.out,h20,h21,h0])
    clear HSET
    go_wp2
    go_ret
    exact⟨by rw [HT.out];rfl,HBX.out⟩
   replace h0:=Decidable.not_not.1 h0
   subst h0
   by_cases h1:¬(sr+lm≤now)
   ·have HT:Hid (timesB c now ⟨ac,nd,lm,sb,4,sr,(sr+lm),xs⟩=false):=(show timesB c now ⟨ac,nd,lm,sb,4,sr,(sr+lm),xs⟩=false by simp [timesB,HSET.out,h20,h21,h1])
    have n1:decide (sr+lm≤now)=false:=decide_eq_false h1
    clear HSET
    go_wp2
    go_ret
    exact⟨by rw [HT.out];rfl,HBX.out⟩
   replace h1:=Decidable.not_not.1 h1
   have HT:Hid (timesB c now ⟨ac,nd,lm,sb,4,sr,(sr+lm),xs⟩=true):=(show timesB c now ⟨ac,nd,lm,sb,4,sr,(sr+lm),xs⟩=true by simp [timesB,HSET.out,h20,h21,h1])
   clear HSET
   go_wp2
   go_ret
   exact⟨by rw [HT.out];rfl,HBX.out⟩
  have HT:Hid (timesB c now ⟨ac,nd,lm,sb,st,sr,en,xs⟩=false):=(show timesB c now ⟨ac,nd,lm,sb,st,sr,en,xs⟩=false by simp [timesB,e1,e6,e2,e3,e4,e5])
  clear HSET
  go_wp2
  go_ret
  exact⟨by rw [HT.out];rfl,HBX.out⟩
end Go.Proofs.YtceoibfliggalaaGreatDoor
namespace Go.Proofs.YtceoibfliggalaaGreatDoor
open Go.RowKit Wd Tr Cg Lg
structure PjsAt (W:World) (jo:Option Addr) (ps:List Pj):Prop where
 jobs:JobsAt W jo (ps.map Pj.jb)
 sets:∀p∈ps,IntsAt W p.sa p.v.set
theorem PjsAt.below {W W':World} {jo:Option Addr} {ps:List Pj} (h:PjsAt W jo ps) (b:Below W.heap.size W W'):PjsAt W' jo ps:=⟨h.jobs.below b,fun p hp=>(h.sets p hp).below b⟩
theorem raw_jb (n now:Int):∀ps:List Pj,rawZ [n] now (ps.map Pj.jb)=rawJ n now (ps.map Pj.v)
 | []=>rfl
 | p::ps=>by
  simp only [List.map_cons,rawZ,rawJ,raw_jb n now ps]
  congr 1
  unfold oneZ ranZ ranJ Pj.jb
  simp only [List.mem_singleton]
theorem ints_one (W:World) (n:Int):IntsAt (W.alloc (.cells #[.int .i64 n] 3)) (some ⟨W.heap.size,0,none⟩) [n]:=by
 refine⟨_,_,fun _=>rfl,fun k x hx=>?_⟩
 rcases k with _ | k
 ·simp at hx
  subst hx
  simp
 ·simp at hx
set_option maxRecDepth 20000 in
set_option maxHeartbeats 4000000 in
theorem uusage_any {w:World} (c:Cf) (now:Int) {ao:Option Addr} {la:List Ac} (ca:Nat) {jo:Option Addr} {ps:List Pj} (cj:Nat) (hd:Int) (hA:AcsAt w ao la) (hJ:PjsAt w jo ps) (hl:ps.length≤140737488355328) {n:Nat} {a:Ac} (ha:la[n]?=some a) (hu:Word a.us) (hr:0≤rawJ n now (ps.map Pj.v)∧rawJ n now (ps.map Pj.v)≤4611686018427387904):
  Calls Tryz.prog 39 #[.agg (stL c now ao la.length ca jo ps.length cj hd),.int .i64 (n:Int)] w fun e w'=>e=.returned (.bool (usageB now (ps.map Pj.v) n a))∧Below w.heap.size w w':=by
 have hn:=(List.getElem?_eq_some_iff.1 ha).1
 obtain⟨W,hW⟩:∃W,w.alloc (.cells (stL c now ao la.length ca jo ps.length cj hd) 27)=W:=⟨_,rfl⟩
 have b1:Below w.heap.size w W:=by rw [← hW];exact(Below.refl _ w).alloc (Nat.le_refl _) _
 have hc:∀k v,(stL c now ao la.length ca jo ps.length cj hd)[k]?=some v→W.cell? ⟨w.heap.size,k,none⟩=some v:=fun k v hv=>by rw [← hW];exact cells_at (heap_alloc_new w _) hv
 have k8:W.cell? ⟨w.heap.size,8,none⟩=some (.int .i64 now):=hc 8 _ rfl
 have k9:W.cell? ⟨w.heap.size,9,none⟩=some (.slice ao la.length ca):=hc 9 _ rfl
 have k10:W.cell? ⟨w.heap.size,10,none⟩=some (.slice jo ps.length cj):=hc 10 _ rfl
 have z8:(W.alloc (.cells #[.int .i64 (n:Int)] 3)).cell? ⟨w.heap.size,8,none⟩=some (.int .i64 now):=cellB ((Below.refl _ W).alloc (Nat.le_refl _) _) k8
 clear hc
 obtain⟨g,o,hg,hcl⟩:=hA
 obtain rfl:=hg (by omega)
 have hac:=(hcl n a ha).below b1
 have y4:=hac.us
 have HR:Hid (∀x,Below w.heap.size w x→∀bo,IntsAt x bo [(n:Int)]→Calls Tryz.prog 85 #[.slice jo ps.length cj,.slice bo 1 1,.int .i64 now] x fun e w'=>e=.returned (.int .i64 (rawJ n now (ps.map Pj.v)))∧Below x.heap.size x w'):=fun x hx bo hbo=>by
  have:=rraw_any (c:=cj) (c':=1) (hJ.jobs.below hx) (by rw [List.length_map];exact hl) hbo (by simp) now
  rw [List.length_map]at this
  unfold rawV at this
  rw [raw_jb,show wrap64 (rawJ n now (ps.map Pj.v))=rawJ n now (ps.map Pj.v) by unfold wrap64;omega]at this
  exact this
 have cR:=HR.out (W.alloc (.cells #[.int .i64 (n:Int)] 3)) (b1.alloc b1.size _) _ (ints_one W n)
 have HU:Hid (usageB now (ps.map Pj.v) n a=decide (a.us≤rawJ n now (ps.map Pj.v)*4294967296)):=rfl
 have HB:Hid (Below w.heap.size w (W.alloc (.cells #[.int .i64 (n:Int)] 3))):=b1.alloc b1.size _
 generalize rawJ n now (ps.map Pj.v)=R at *
 generalize a.us=U at *
 have hlt:(n:Int)<la.length:=by omega
 have hn0:(0:Int)≤n:=by omega
 obtain⟨hu0,hu1⟩:=hu
 have hdv:IntKind.i64.wrap (U / 4294967296)=U / 4294967296:=by rw [IntKind.wrap_i64];omega
 have hs:IntKind.u64.wrap (U / 4294967296*4294967296)=U / 4294967296*4294967296:=by rw [IntKind.wrap_u64];omega
 generalize la.length=L at *
 generalize ps.length=N at *
 clear hcl hg hac ha HR hJ b1
 unfold stL at hW ⊢
 go_enter Tryz.func39,Tryz.ntmps39
 go_wp2_with fail
 refine cR.mono ?_
 rintro e x ⟨rfl,hx⟩
 have HBX:Hid (Below w.heap.size w x):=HB.out.trans (hx.mono HB.out.size)
 clear hx cR HB k8 z8 k9 k10 y4 hW
 by_cases h1:U / 4294967296<R
 ·have HT:Hid (decide (U≤R*4294967296)=true):=decide_eq_true (by omega)
  go_wp2
  go_ret
  exact⟨by rw [HU.out,HT.out];rfl,HBX.out⟩
 ·have h1':decide (U / 4294967296<R)=false:=decide_eq_false h1
  by_cases h2:U / 4294967296=R
  ·by_cases h3:U=U / 4294967296*4294967296
   ·have HT:Hid (decide (U≤R*4294967296)=true):=decide_eq_true (by omega)
    have h2':(U / 4294967296==R)=true:=by simpa using h2
    have h3':(U==U / 4294967296*4294967296)=true:=by simpa using h3
    clear h2 h3
    go_wp2
    go_ret
    exact⟨by rw [HU.out,HT.out];rfl,HBX.out⟩
   ·have HT:Hid (decide (U≤R*4294967296)=false):=decide_eq_false (by omega)
    have h2':(U / 4294967296==R)=true:=by simpa using h2
    have h3':(U==U / 4294967296*4294967296)=false:=by simpa using h3
    clear h2 h3
    go_wp2
    go_ret
    exact⟨by rw [HU.out,HT.out];rfl,HBX.out⟩
  ·have HT:Hid (decide (U≤R*4294967296)=false):=decide_eq_false (by omega)
   have h2':(U / 4294967296==R)=false:=by simpa using h2
   clear h2
   go_wp2
   go_ret
   exact⟨by rw [HU.out,HT.out];rfl,HBX.out⟩
end Go.Proofs.YtceoibfliggalaaGreatDoor
namespace Go.Proofs.YtceoibfliggalaaGreatDoor
open Go.RowKit Wd Tr Cg Lg
def oneB (a b:Jv):Bool:=(decide (a.st≠2)&&decide (a.en≤b.sr))||(decide (b.st≠2)&&decide (b.en≤a.sr))
def twoB (a b:Jv):Bool:=(decide (a.st≠2)&&decide (a.en≤a.sr))||(decide (b.st≠2)&&decide (b.en≤b.sr))
theorem over_parts (a b:Jv):overB a b=(!oneB a b&& !twoB a b):=by
 rw [Bool.eq_iff_iff]
 simp only [overB,oneB,twoB,Bool.and_eq_true,Bool.or_eq_true,Bool.not_eq_true',Bool.or_eq_false_iff,Bool.and_eq_false_iff,decide_eq_true_eq,decide_eq_false_iff_not]
 omega
theorem meet_no {a b:List Int} (h:∀x∈a,x∉b):meetB a b=false:=by
 cases hm:meetB a b with
 | false=>rfl
 | true=>
  obtain⟨n,h1,h2⟩:=meet_iff.1 hm
  exact absurd h2 (h n h1)
set_option maxRecDepth 20000 in
set_option maxHeartbeats 4000000 in
theorem ucommon_any {w:World} (p q:Pj) (hP:IntsAt w p.sa p.v.set) (hQ:IntsAt w q.sa q.v.set) (hlp:p.v.set.length≤140737488355328) (hlq:q.v.set.length≤140737488355328):
  Calls Tryz.prog 38 #[pjV p,pjV q] w fun e w'=>e=.returned (.bool (commonB p.v q.v))∧Below w.heap.size w w':=by
 have HCM:Hid (commonB p.v q.v=((!oneB p.v q.v&& !twoB p.v q.v)&&meetB p.v.set q.v.set)):=(show commonB p.v q.v=_ by unfold commonB;rw [over_parts])
 obtain⟨⟨ac,nd,lm,sb,st,sr,en,xs⟩,sa,sc⟩:=p
 obtain⟨⟨ac',nd',lm',sb',st',sr',en',ys⟩,sa',sc'⟩:=q
 unfold pjV
 dsimp only at hP hQ hlp hlq HCM ⊢
 obtain⟨one,hone⟩:∃one,oneB ⟨ac,nd,lm,sb,st,sr,en,xs⟩ ⟨ac',nd',lm',sb',st',sr',en',ys⟩=one:=⟨_,rfl⟩
 obtain⟨two,htwo⟩:∃two,twoB ⟨ac,nd,lm,sb,st,sr,en,xs⟩ ⟨ac',nd',lm',sb',st',sr',en',ys⟩=two:=⟨_,rfl⟩
 rw [hone,htwo]at HCM
 have HONE:Hid (((decide (st≠2)&&decide (en≤sr'))||(decide (st'≠2)&&decide (en'≤sr)))=one):=hone
 have HTWO:Hid (((decide (st≠2)&&decide (en≤sr))||(decide (st'≠2)&&decide (en'≤sr')))=two):=htwo
 clear hone htwo
 obtain⟨n,hn⟩:∃n,xs.length=n:=⟨_,rfl⟩
 obtain⟨m,hm⟩:∃m,ys.length=m:=⟨_,rfl⟩
 have HN:Hid (xs.length=n):=hn
 have HM:Hid (ys.length=m):=hm
 obtain⟨g,o,hg,hc⟩:=hP
 obtain⟨g',o',hg',hc'⟩:=hQ
 rw [hn]at hg hlp ⊢
 rw [hm]at hg' hlq ⊢
 clear hn hm
 obtain⟨W,hW⟩:∃W,(w.alloc (.cells #[.int .i64 ac,.int .i64 nd,.int .i64 lm,.int .i64 sb,.int .i64 st,.int .i64 sr,.int .i64 en,.slice sa n sc] 55)).alloc (.cells #[.int .i64 ac',.int .i64 nd',.int .i64 lm',.int .i64 sb',.int .i64 st',.int .i64 sr',.int .i64 en',.slice sa' m sc'] 55)=W:=⟨_,rfl⟩
 have HB:Hid (Below w.heap.size w W):=by rw [← hW];exact((Below.refl _ w).alloc (Nat.le_refl _) _).alloc (by simp) _
 have a4:W.cell? ⟨w.heap.size,4,none⟩=some (.int .i64 st):=by rw [← hW];simp
 have a5:W.cell? ⟨w.heap.size,5,none⟩=some (.int .i64 sr):=by rw [← hW];simp
 have a6:W.cell? ⟨w.heap.size,6,none⟩=some (.int .i64 en):=by rw [← hW];simp
 have a7:W.cell? ⟨w.heap.size,7,none⟩=some (.slice sa n sc):=by rw [← hW];simp
 have b4:W.cell? ⟨w.heap.size+1,4,none⟩=some (.int .i64 st'):=by rw [← hW];simp
 have b5:W.cell? ⟨w.heap.size+1,5,none⟩=some (.int .i64 sr'):=by rw [← hW];simp
 have b6:W.cell? ⟨w.heap.size+1,6,none⟩=some (.int .i64 en'):=by rw [← hW];simp
 have b7:W.cell? ⟨w.heap.size+1,7,none⟩=some (.slice sa' m sc'):=by rw [← hW];simp
 go_enter Tryz.func38,Tryz.ntmps38
 go_upto_region 1 with fail
 clear hW
 go_cut [30] (fun v x=>v=.bool one∧W=x)
 case first=>
  clear hg hc hg' hc' HCM HTWO a7 b7
  by_cases h1:st=2
  ·subst h1
   by_cases h2:st'=2
   ·subst h2
    go_wp2
    go_meet
    exact⟨by rw [← HONE.out];simp,rfl⟩
   ·by_cases h3:en'≤sr
    ·go_wp2
     go_meet
     exact⟨by rw [← HONE.out];simp [h2,h3],rfl⟩
    ·go_wp2
     go_meet
     exact⟨by rw [← HONE.out];simp [h2,h3],rfl⟩
  ·by_cases h4:en≤sr'
   ·go_wp2
    go_meet
    exact⟨by rw [← HONE.out];simp [h1,h4],rfl⟩
   ·by_cases h2:st'=2
    ·subst h2
     go_wp2
     go_meet
     exact⟨by rw [← HONE.out];simp [h1,h4],rfl⟩
    ·by_cases h3:en'≤sr
     ·go_wp2
      go_meet
      exact⟨by rw [← HONE.out];simp [h1,h2,h3],rfl⟩
     ·go_wp2
      go_meet
      exact⟨by rw [← HONE.out];simp [h1,h2,h3,h4],rfl⟩
 case rest=>
 obtain⟨rfl,hx⟩:=hcut
 rw [← hx]
 clear hx
 cases one with
 | true=>
  clear hg hc hg' hc' HTWO HONE
  go_wp2
  go_ret
  exact⟨by rw [HCM.out];rfl,HB.out⟩
 | false=>
 clear HONE
 go_upto_region 3 with fail
 go_cut [52] (fun v x=>v=.bool two∧W=x)
 case first=>
  clear hg hc hg' hc' HCM a7 b7
  by_cases h1:st=2
  ·subst h1
   by_cases h2:st'=2
   ·subst h2
    go_wp2
    go_meet
    exact⟨by rw [← HTWO.out];simp,rfl⟩
   ·by_cases h3:en'≤sr'
    ·go_wp2
     go_meet
     exact⟨by rw [← HTWO.out];simp [h2,h3],rfl⟩
    ·go_wp2
     go_meet
     exact⟨by rw [← HTWO.out];simp [h2,h3],rfl⟩
  ·by_cases h4:en≤sr
   ·go_wp2
    go_meet
    exact⟨by rw [← HTWO.out];simp [h1,h4],rfl⟩
   ·by_cases h2:st'=2
    ·subst h2
     go_wp2
     go_meet
     exact⟨by rw [← HTWO.out];simp [h1,h4],rfl⟩
    ·by_cases h3:en'≤sr'
     ·go_wp2
      go_meet
      exact⟨by rw [← HTWO.out];simp [h1,h2,h3],rfl⟩
     ·go_wp2
      go_meet
      exact⟨by rw [← HTWO.out];simp [h1,h2,h3,h4],rfl⟩
 case rest=>
 obtain⟨rfl,hx⟩:=hcut
 rw [← hx]
 clear hx
 cases two with
 | true=>
  clear hg hc hg' hc' HTWO
  go_wp2
  go_ret
  exact⟨by rw [HCM.out];rfl,HB.out⟩
 | false=>
 clear HTWO a4 a5 a6 b4 b5 b6
 go_wp2
 go_loopg [56] n (fun gk pk wr=>∃k:Nat,k+gk=n∧pk=.int .i64 k∧W=wr∧∀x∈xs.take k,x∉ys)
 case atStart=>exact⟨0,by omega,rfl,rfl,fun x hx=>by simp at hx⟩
 case round=>
  obtain⟨k,hk,rfl,rfl,hno⟩:=hrel
  by_cases hlt:k<n
  ·have hlt':(k:Int)<n:=by omega
   obtain⟨x,hx⟩:∃x,xs[k]?=some x:=⟨_,List.getElem?_eq_getElem (by rw [HN.out];exact hlt)⟩
   obtain rfl:=hg (by omega)
   have d0:=cellB HB.out (hc k x hx)
   have HX:Hid (xs[k]?=some x):=hx
   have HNO:Hid (∀x∈xs.take k,x∉ys):=hno
   clear hx hno
   go_wp2
   go_loopg [63] m (fun gk pl wr=>∃i:Nat,i+gk=m∧pl=.int .i64 i∧W=wr∧x∉ys.take i)
   case atStart=>exact⟨0,by omega,rfl,rfl,by simp⟩
   case round=>
    obtain⟨i,hi,rfl,rfl,hni⟩:=hrel
    by_cases hli:i<m
    ·have hli':(i:Int)<m:=by omega
     obtain⟨y,hy⟩:∃y,ys[i]?=some y:=⟨_,List.getElem?_eq_getElem (by rw [HM.out];exact hli)⟩
     obtain rfl:=hg' (by omega)
     have d1:=cellB HB.out (hc' i y hy)
     have HY:Hid (ys[i]?=some y):=hy
     have HNI:Hid (x∉ys.take i):=hni
     clear hy hni
     by_cases e:x=y
     ·have HME:Hid (meetB xs ys=true):=meet_iff.2 ⟨x,List.mem_of_getElem? HX.out,by rw [e];exact List.mem_of_getElem? HY.out⟩
      subst e
      go_wp2
      go_ret
      exact⟨by rw [HCM.out,HME.out];rfl,HB.out⟩
     ·have e':(x==y)=false:=by simpa using e
      go_wp2
      go_roundg (m - (i+1))
      case measure=>omega
      case rel=>
       refine⟨i+1,by omega,rfl,rfl,fun hx=>?_⟩
       obtain⟨hi',rfl⟩:=List.getElem?_eq_some_iff.1 HY.out
       rw [List.take_succ_eq_append_getElem hi']at hx
       rcases List.mem_append.1 hx with h | h
       ·exact HNI.out h
       ·exact e (by simpa using h)
    ·obtain rfl:i=m:=by omega
     have HNI:Hid (x∉ys):=by
      have:=hni
      rw [List.take_of_length_le (by rw [HM.out];omega)]at this
      exact this
     clear hni
     go_wp2
     go_roundg (n - (k+1))
     case measure=>omega
     case rel=>
      refine⟨k+1,by omega,rfl,rfl,fun y hy=>?_⟩
      obtain⟨hk',rfl⟩:=List.getElem?_eq_some_iff.1 HX.out
      rw [List.take_succ_eq_append_getElem hk']at hy
      rcases List.mem_append.1 hy with h | h
      ·exact HNO.out y h
      ·have:y=xs[k]:=by simpa using h
       rw [this]
       exact HNI.out
  ·obtain rfl:k=n:=by omega
   have HME:Hid (meetB xs ys=false):=meet_no (by rw [List.take_of_length_le (by rw [HN.out];omega)]at hno;exact hno)
   clear hno
   go_wp2
   go_ret
   exact⟨by rw [HCM.out,HME.out];rfl,HB.out⟩
end Go.Proofs.YtceoibfliggalaaGreatDoor
