import Derived.Test.YtdhifkbbjlhcaaaGreatDoorKz31
set_option maxRecDepth 20000
set_option maxHeartbeats 1000000
set_option linter.defProp false
namespace Go.Proofs.YtdhifkbbjlhcaaaGreatDoor
open Go.Proofs.Tryz
section
open Wd Tr Cg Ld
def Bare (s:Sv) (r:Sv×FV):Prop:=r.2.code≠0->r.1=s/\r.2=coded r.2.code
theorem kC (s:Sv) (e:Int):Bare s (s,coded e):=fun _=>⟨rfl,rfl⟩
theorem mO {s:Sv} {r:Sv×FV} (h:r.2.code=0):Bare s r:=fun e=>absurd h e
theorem Wx (s:Sv) (c:Cd):Bare s (lU s c):=by
 unfold lU;grind[kC,mO,coded,told]
theorem Wy (s:Sv) (c:Cd):Bare s (jU s c):=by
 unfold jU;split
 ·exact kC _ _
 ·split
  ·exact mO rfl
  ·split
   ·exact mO rfl
   ·exact kC _ _
theorem Nu (s:Sv) (c:Cd):Bare s (iB s c):=by
 unfold iB;split
 ·exact kC _ _
 ·split
  ·exact mO rfl
  ·exact kC _ _
theorem Zn (s:Sv) (c:Cd):Bare s (nQ s c):=by
 unfold nQ;grind[kC,mO,coded,told]
theorem R5 (s:Sv) (c:Cd):Bare s (nD s c):=by
 unfold nD;grind[kC,mO,coded]
theorem aen {l:List Ac} {nm:ByteArray} {sh:Int} (h:(dO l nm sh).1≠0):(dO l nm sh).2=l:=by
 grind[dO]
theorem ajK {l:List Ac} {nm:ByteArray} (h:(gK l nm).1≠0):(gK l nm).2=l:=by
 grind[gK]
theorem anp {s:Sv} {la:List Ac} {e:Int} (h:e≠0->la=s.la):Bare s ({s with la:=la},coded e):=fun he=>⟨by show ({s with la:=la}:Sv)=s;rw[h he],rfl⟩
theorem ajL (s:Sv) (c:Cd):Bare s (s,Rh s c):=by
 unfold Rh;grind[kC,mO,coded]
theorem Zo (s:Sv) (c:Cd):Bare s (s,yg s c):=by
 unfold yg;grind[kC,mO,coded]
def anq (s:Sv) (c:Cd):Bare s (yS s c):=by
 unfold yS;split
 ·exact kC _ _
 ·unfold doS;by_cases h1:c.kind=1
  ·grind[Wx]
  rw[au h1];by_cases h2:c.kind=2
  ·grind[Wy]
  rw[au h2];by_cases h3:c.kind=3
  ·grind[Nu]
  rw[au h3];by_cases h4:c.kind=4
  ·grind[Zn]
  rw[au h4];by_cases h5:c.kind=5
  ·grind[R5]
  grind[anp,aen,Qd,ajK,ajL,mO,Zo,yc,Lx,Dv,Gr,coded]
def aeo {s:Sv} {c:Cd} (h:¬(1<=c.kind/\c.kind<=8)):(yS s c).1=s:=by
 unfold yS;split
 ·rfl
 grind[doS]
end
end Go.Proofs.YtdhifkbbjlhcaaaGreatDoor
