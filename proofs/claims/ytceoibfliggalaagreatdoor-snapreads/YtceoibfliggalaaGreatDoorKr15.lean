/-
  TEXTS: SpA.
-/
import Derived.Test.YtceoibfliggalaaGreatDoorKr14
namespace Go.Proofs.YtceoibfliggalaaGreatDoor
open Go.RowKit Wd Tr Cg Lg
def Tells (w:World) (p:Prop) (e:Ending) (w':World):Prop:=∃b:Bool,e=.returned (.bool b)∧(b=true↔p)∧Below w.heap.size w w'
theorem Tells.no {w w':World} {p:Prop} (h:¬p) (b:Below w.heap.size w w'):Tells w p (.returned (.bool false)) w':=⟨false,rfl,⟨(fun e=>by cases e),fun x=>absurd x h⟩,b⟩
theorem Tells.yes {w w':World} {p:Prop} (h:p) (b:Below w.heap.size w w'):Tells w p (.returned (.bool true)) w':=⟨true,rfl,⟨fun _=>h,fun _=>rfl⟩,b⟩
theorem take_next {α:Type} {xs ys:List α} {i:Nat} {x:α} (h:xs.take i=ys.take i) (hx:xs[i]?=some x) (hy:ys[i]?=some x):xs.take (i+1)=ys.take (i+1):=by
 obtain⟨h1,e1⟩:=List.getElem?_eq_some_iff.1 hx
 obtain⟨h2,e2⟩:=List.getElem?_eq_some_iff.1 hy
 rw [List.take_succ_eq_append_getElem h1,List.take_succ_eq_append_getElem h2,h,e1,e2]
theorem take_all {α:Type} {xs ys:List α} {n:Nat} (h:xs.take n=ys.take n) (hx:xs.length=n) (hy:ys.length=n):xs=ys:=by
 rwa [List.take_of_length_le (by omega),List.take_of_length_le (by omega)]at h
theorem ne_at {α:Type} {xs ys:List α} {i:Nat} {x y:α} (hx:xs[i]?=some x) (hy:ys[i]?=some y) (h:x≠y):xs≠ys:=fun e=>h (by rw [e,hy]at hx;exact(Option.some.inj hx).symm)
set_option maxRecDepth 20000 in
set_option maxHeartbeats 1000000 in
theorem sameInts_b {w:World} {ao bo:Option Addr} {xs ys:List Int} (c c':Nat) (hA:IntsAt w ao xs) (hB:IntsAt w bo ys) (hl:xs.length≤140737488355328):
  Calls Tryz.prog 32 #[.slice ao xs.length c,.slice bo ys.length c'] w (Tells w (xs=ys)):=by
 obtain⟨g,o,h1,h2⟩:=hA
 obtain⟨g',o',h3,h4⟩:=hB
 by_cases hne:xs.length=ys.length
 ·obtain ⟨n,hn⟩:∃n,xs.length=n:=⟨_,rfl⟩
  have HN:Hid (xs.length=n):=hn
  have HM:Hid (ys.length=n):=hne.symm.trans hn
  rw [← hne,hn]at h3 ⊢
  rw [hn]at h1 hl
  have H1:Hid _:=h1
  have H2:Hid _:=h2
  have H3:Hid _:=h3
  have H4:Hid _:=h4
  clear h1 h2 h3 h4 hn hne
  go_enter Tryz.func32,Tryz.ntmps32
  go_wp2
  go_loopg [5] n (fun gk p wr=>∃(k:Nat),k+gk=n∧p=.int .i64 k∧Below w.heap.size w wr∧xs.take k=ys.take k)
  case atStart=>exact⟨0,by omega,rfl,Below.refl _ _,rfl⟩
  case round=>
   obtain⟨k,hk,rfl,hb,he⟩:=hrel
   have HE:Hid (xs.take k=ys.take k):=he
   clear he
   by_cases hlt:k<n
   ·have hlt':(k:Int)<n:=by omega
    obtain⟨x,hx⟩:∃x,xs[k]?=some x:=⟨_,List.getElem?_eq_getElem (by rw [HN.out];exact hlt)⟩
    obtain⟨y,hy⟩:∃y,ys[k]?=some y:=⟨_,List.getElem?_eq_getElem (by rw [HM.out];exact hlt)⟩
    have e1:=H1.out (by omega)
    have e3:=H3.out (by omega)
    subst e1
    subst e3
    have c1:=cellB hb (H2.out k x hx)
    have c2:=cellB hb (H4.out k y hy)
    have HB:Hid (Below w.heap.size w wr):=hb
    have HX:Hid (xs[k]?=some x):=hx
    have HY:Hid (ys[k]?=some y):=hy
    clear hb hx hy
    by_cases e:x=y
    ·subst e
     go_upto_region 6 with fail
     go_quiet (fail)
     have bV:Below wr.heap.size wr (wr.drewN nq):=bel_drawU wr nq
     clear c1 c2
     go_wp2
     go_roundg (n - (k+1))
     case measure=>omega
     case rel=>exact⟨k+1,by omega,by go_num,HB.out.trans (bV.mono HB.out.size),take_next HE.out HX.out HY.out⟩
    ·have e':(x != y)=true:=by simpa using e
     have HF:Hid (xs≠ys):=ne_at HX.out HY.out e
     go_upto_region 6 with fail
     go_quiet (fail)
     have HV:Hid (Below w.heap.size w (wr.drewN nq)):=HB.out.trans ((bel_drawU wr nq).mono HB.out.size)
     clear c1 c2
     go_wp2
     go_ret
     exact Tells.no HF.out (HV.out)
   ·have hlt':¬(k:Int)<n:=by omega
    obtain rfl:k=n:=by omega
    have HB:Hid (Below w.heap.size w wr):=hb
    clear hb
    go_wp2
    go_ret
    exact Tells.yes (take_all HE.out HN.out HM.out) HB.out
 ·have HF:Hid (xs≠ys):=fun h=>hne (by rw [h])
  have hne':((xs.length:Int) != (ys.length:Int))=true:=by
   have:(xs.length:Int)≠(ys.length:Int):=by omega
   simpa using this
  generalize xs.length=n at *
  generalize ys.length=m at *
  go_enter Tryz.func32,Tryz.ntmps32
  go_wp2
  go_ret
  exact Tells.no HF.out (Below.refl _ _)
end Go.Proofs.YtceoibfliggalaaGreatDoor
