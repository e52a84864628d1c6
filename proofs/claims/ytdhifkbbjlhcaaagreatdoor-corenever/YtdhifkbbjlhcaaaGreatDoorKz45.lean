import Derived.Test.YtdhifkbbjlhcaaaGreatDoorRows
import Derived.Test.YtdhifkbbjlhcaaaGreatDoorCards
import Derived.Test.YtdhifkbbjlhcaaaGreatDoorTie
import Derived.Test.YtdhifkbbjlhcaaaGreatDoorKz18
import Derived.Test.YtdhifkbbjlhcaaaGreatDoorKz25
import Derived.SizedLaws
import Derived.Carry
import Derived.ProofKit
import Derived.LaidLaws
import Derived.LaidHandle
import Derived.Lib.SmallJoins
import Derived.SevenTiedAt
import Derived.Deep.Slices
import Derived.Stop.LaidErr
set_option maxRecDepth 20000
set_option maxHeartbeats 1000000
set_option linter.defProp false
namespace Go.Proofs.YtdhifkbbjlhcaaaGreatDoor
open Go.Proofs.Tryz
section
open Go.ChangeShapes Go.WideShapes Go.ChangeAt Go.RowKit Go.Joins Wd Ld V8
theorem Tryz.own:ownKnob prog.godebug=none:=aF
def Tryz.gF:prog.globalNamed "backfill/verbs.forms" =some 0:=aF
def Tryz.arU:(prog.globals[0]?).map (·.type)=some 152:=aF
def Tryz.gT:prog.globalNamed "backfill/ladder.rungs" =some 1:=aF
def Tryz.arV:(prog.globals[1]?).map (·.type)=some 321:=aF
def Tryz.gB:prog.globalNamed "math/bits.deBruijn64tab" =some 4:=aF
def Tryz.arW:(prog.globals[4]?).map (·.type)=some 360:=aF
def Tryz.am2:prog.cellsOf 40=1:=aF
def Tryz.ajb:prog.cellsOf 321=32:=aF
def Tryz.am3:prog.cellsOf 5=1:=aF
def Tryz.ajc:prog.cellsOf 360=64:=aF
def Tryz.Mt:prog.cellsOf 3=1:=aF
def Tryz.V_:prog.cellsOf 9=1:=aF
def Tryz.Wh:prog.cellsOf 149=3:=aF
def Tryz.ajd:prog.cellsOf 151=4:=aF
abbrev uz {H:Type}:List (String×DataW H):= [("math/bits.deBruijn64tab",Rows.laid_math_bits_deBruijn64tab),("backfill/ladder.rungs",Rows.laid_backfill_ladder_rungs),("backfill/verbs.forms",Rows.laid_backfill_verbs_forms)]
def arX {w:ay} (h:laidMetH prog uz w):laidMet prog uz w:=by
 unfold laidMetH at h;rw[show (uz.filter fun x=>x.2.handleName?.isSome)= [] by kernel_rfl]at h;omega
abbrev aAY:List Int:=rungs.map fun n:Nat=>(n:Int)
abbrev awm:List Int:=Lib.deBruijn64tab.map fun n:Nat=>(n:Int)
def adY:(Rows.laid_backfill_ladder_rungs:DataW Unit)=Lib.tabData .u64 aAY:=iW
def Zi:(Rows.laid_math_bits_deBruijn64tab:DataW Unit)=Lib.tabData .u8 awm:=iW
def Pk (k:Nat):DataW Unit:=.agg [.lit (.string (kM (k:Int)).1),Lib.tabData .i64 [Dh k 0,Dh k 1,Dh k 2]]
def Wi:(Rows.laid_backfill_verbs_forms:DataW Unit)=.agg ((List.range 14).map Pk):=aF
def Wj {w:ay} {fuel:Nat} {cs:List Value} {p:List MemPlace} (h:DataW.trod (fun _=>()) prog w 0 (fun _=>true) false fuel 152 cs=some (.agg ((List.range 14).map Pk),p)) (k:Nat) (hk:k<14):
  cs[k*4]?=some (.string (str (kM (k:Int)).1))/\∀i,i<3->cs[k*4+1+i]?=some (.int .i64 (Dh k i)):=by
 obtain⟨xs,m,rfl,hx,hl,hn,ha⟩:=DataW.trod_array underlying152 h;have hk1:=ha k hk;rw[Tryz.ajd]at hk1;have e1:xs.map (·.1)=(List.range 14).map Pk:=by grind
 have e2:(xs.map (·.1))[k]?=some (Pk k):=by grind
 obtain⟨⟨d,r⟩,hd,hd'⟩:∃y,xs[k]?=some y/\y.1=Pk k:=by grind
 simp only at hd';subst hd';rw[hd]at hk1;obtain⟨ys,n,rfl,hy,hl2,hn2,hf⟩:=DataW.trod_struct underlying151 hk1;have e3:ys.map (·.1)= [.lit (.string (kM (k:Int)).1),Lib.tabData .i64 [Dh k 0,Dh k 1,Dh k 2]]:=by grind[Pk]
 have h0:DataW.trod (fun _=>()) prog w 0 (fun _=>true) false n 9 ((((cs.drop (k*4)).take 4).drop 0).take (prog.cellsOf 9))=ys[0]?:=hf 0 _ rfl;have h1:DataW.trod (fun _=>()) prog w 0 (fun _=>true) false n 149 ((((cs.drop (k*4)).take 4).drop 1).take (prog.cellsOf 149))=ys[1]?:=hf 1 _ rfl;rw[Tryz.V_]at h0;rw[Tryz.Wh]at h1;obtain⟨a,b,rfl⟩:∃a b,ys= [a,b]:=by
  match ys,hn2 with
  | [a,b],_=>grind
 simp only[nI,List.map_nil,List.cons.injEq,and_true]at e3;obtain⟨ea,eb⟩:=e3;obtain⟨a1,a2⟩:=a;obtain⟨b1,b2⟩:=b;simp only at ea eb;subst ea eb;simp only[List.getElem?_cons_zero,List.getElem?_cons_succ]at h0 h1;obtain⟨s,hs,hs',_⟩:=DataW.trod_string underlying9 h0;have hs2:(kM (k:Int)).1=s.data.toList:=by grind
 have hi:=Lib.cells_of_tab underlying149 underlying3 Tryz.Mt Tryz.Wh h1;have hcs:∀i,i<4->cs[k*4+i]?=((cs.drop (k*4)).take 4)[i]?:=by grind
 generalize (cs.drop (k*4)).take 4=c4 at *;constructor
 ·have h:=aP (·[0]?) hs;rw[hs2,show str s.data.toList=s from Lib.mk_data s,show k*4=k*4+0 from rfl,hcs 0 aT];grind
 ·intro i hi3;have h:=aP (·[i]?) hi;grind
def AO {w:ay} (h0:laidMetH prog uz w):V8.Tab w/\_root_.Go.Proofs.YtdhifkbbjlhcaaaGreatDoor.Tab w/\N2.Tab w:=by
 have h:=arX h0;have h1:=h;rw[show uz=("math/bits.deBruijn64tab",Lib.tabData .u8 awm)::_ from aP (fun d=>("math/bits.deBruijn64tab",d)::_) Zi]at h1
 have h2:=h.tail;rw[adY]at h2;obtain⟨ps,⟨g',t',cs,fuel,p,q,hg',ht',hvar,hd,_,_⟩,_⟩:=h.tail.tail;obtain rfl:=ji (Tryz.gF.symm.trans hg');obtain rfl:=ji (Tryz.arU.symm.trans ht');rw[Wi]at hd;have hf:=Wj hd;have hc:∀i,w.cell? ⟨0,i,none⟩=cs.toList[i]?:=by grind[World.var?_cell]
 have hT:=Lib.tabIs_of_head Tryz.gT Tryz.arV underlying321 underlying40 Tryz.am2 Tryz.ajb h2;have hB:=Lib.tabIs_of_head Tryz.gB Tryz.arW underlying360 underlying5 Tryz.am3 Tryz.ajc h1;refine⟨⟨fun k hk=>by grind,fun k i hk hi=>by grind⟩,fun j hj=>?_,fun j hj=>?_⟩
 ·have hl:rungs.length=32:=iW;rw[hT.cell Tryz.gT j (by grind)];simp[hl,hj,R]
 ·have hl:Lib.deBruijn64tab.length=64:=iW;rw[hB.cell Tryz.gB j (by grind)];grind
def aaZ:Nat->DataW Unit->List Value
 | 0,_=> []
 | _+1,.lit (.int k n)=> [.int k n]
 | _+1,.lit (.string s)=> [.string ⟨s.toArray⟩]
 | n+1,.agg l=>l.flatMap (aaZ n)
 | _+1,_=> []
def Zj (h:Array Obj) (g:Nat) (l:List Value):Array Obj:=h.modify g fun
 | .cells _ t frozen=>.cells l.toArray t frozen
 | o=>o
noncomputable def Bp (os:Os):World:=
 let w0:=World.holding prog os ⟨#[],#[],[]⟩
 {w0 with heap:=Zj (Zj (Zj w0.heap 0 (aaZ 4 Rows.laid_backfill_verbs_forms)) 1 (aaZ 4 Rows.laid_backfill_ladder_rungs)) 4 (aaZ 4 Rows.laid_math_bits_deBruijn64tab)}
def Mw (os:Os) (args:Array Value):laidMetH prog uz ((Bp os).forCall (fun _ _=>0) ⟨#[],args,[]⟩).memory:=
 laidMetH_of_parts (laidMet_of_run' 8 aF aF) aF
end
end Go.Proofs.YtdhifkbbjlhcaaaGreatDoor
