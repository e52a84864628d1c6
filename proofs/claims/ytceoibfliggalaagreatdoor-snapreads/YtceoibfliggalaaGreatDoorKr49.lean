/-
  TEXTS: SqC.
-/
import Derived.Test.YtceoibfliggalaaGreatDoorKr19
namespace Go.Proofs.YtceoibfliggalaaGreatDoor
open Go.RowKit Wd Tr Cg Lg
set_option maxRecDepth 20000 in
set_option maxHeartbeats 1000000 in
theorem sameBytes_b {w:World} {ao bo:Option Addr} {xs ys:List UInt8} (c c':Nat) (hA:BytAt w ao xs) (hB:BytAt w bo ys) (hl:xs.length≤140737488355328):
  Calls Tryz.prog 13 #[.slice ao xs.length c,.slice bo ys.length c'] w (Tells w (xs=ys)):=by
 obtain⟨g,o,h1,h2⟩:=hA
 obtain⟨g',o',h3,h4⟩:=hB
 by_cases hne:xs.length=ys.length
 ·obtain ⟨n,hn⟩:∃n,xs.length=n:=⟨_,rfl⟩
  have HN:Hid (xs.length=n):=hn
  have HM:Hid (ys.length=n):=hne.symm.trans hn
  rw [← hne,hn]at h3 ⊢
  rw [hn]at h1 hl
  have H1:Hid _:=h1
  have H2:Hid _:=h2
  have H3:Hid _:=h3
  have H4:Hid _:=h4
  clear h1 h2 h3 h4 hn hne
  go_enter Tryz.func13,Tryz.ntmps13
  go_wp2
  go_loopg [5] n (fun gk p wr=>∃(k:Nat),k+gk=n∧p=.int .i64 k∧Below w.heap.size w wr∧xs.take k=ys.take k)
  case atStart=>exact⟨0,by omega,rfl,Below.refl _ _,rfl⟩
  case round=>
   obtain⟨k,hk,rfl,hb,he⟩:=hrel
   have HE:Hid (xs.take k=ys.take k):=he
   clear he
   by_cases hlt:k<n
   ·have hlt':(k:Int)<n:=by omega
    obtain⟨x,hx⟩:∃x,xs[k]?=some x:=⟨_,List.getElem?_eq_getElem (by rw [HN.out];exact hlt)⟩
    obtain⟨y,hy⟩:∃y,ys[k]?=some y:=⟨_,List.getElem?_eq_getElem (by rw [HM.out];exact hlt)⟩
    have e1:=H1.out (by omega)
    have e3:=H3.out (by omega)
    subst e1
    subst e3
    have c1:=cellB hb (H2.out k x hx)
    have c2:=cellB hb (H4.out k y hy)
    have HB:Hid (Below w.heap.size w wr):=hb
    have HX:Hid (xs[k]?=some x):=hx
    have HY:Hid (ys[k]?=some y):=hy
    clear hb hx hy
    by_cases e:x=y
    ·subst e
     go_upto_region 6 with fail
     go_quiet (fail)
     have bV:Below wr.heap.size wr (wr.drewN nq):=bel_drawU wr nq
     clear c1 c2
     go_wp2
     go_roundg (n - (k+1))
     case measure=>omega
     case rel=>exact⟨k+1,by omega,by go_num,HB.out.trans (bV.mono HB.out.size),take_next HE.out HX.out HY.out⟩
    ·have e':((x.toNat:Int) != (y.toNat:Int))=true:=by
      have:(x.toNat:Int)≠(y.toNat:Int):=fun h=>e (UInt8.toNat_inj.1 (by omega))
      simpa using this
     have HF:Hid (xs≠ys):=ne_at HX.out HY.out e
     go_upto_region 6 with fail
     go_quiet (fail)
     have HV:Hid (Below w.heap.size w (wr.drewN nq)):=HB.out.trans ((bel_drawU wr nq).mono HB.out.size)
     clear c1 c2
     go_wp2
     go_ret
     exact Tells.no HF.out HV.out
   ·have hlt':¬(k:Int)<n:=by omega
    obtain rfl:k=n:=by omega
    have HB:Hid (Below w.heap.size w wr):=hb
    clear hb
    go_wp2
    go_ret
    exact Tells.yes (take_all HE.out HN.out HM.out) HB.out
 ·have HF:Hid (xs≠ys):=fun h=>hne (by rw [h])
  have hne':((xs.length:Int) != (ys.length:Int))=true:=by
   have:(xs.length:Int)≠(ys.length:Int):=by omega
   simpa using this
  generalize xs.length=n at *
  generalize ys.length=m at *
  go_enter Tryz.func13,Tryz.ntmps13
  go_wp2
  go_ret
  exact Tells.no HF.out (Below.refl _ _)
end Go.Proofs.YtceoibfliggalaaGreatDoor
