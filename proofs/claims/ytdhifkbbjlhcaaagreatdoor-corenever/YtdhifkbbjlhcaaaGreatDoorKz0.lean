import Derived.Test.YtdhifkbbjlhcaaaGreatDoorProg
import Derived.Below
import Derived.CallsIn
import Derived.ChangeArms
import Derived.Deep.AppendLies
import Derived.Deep.Cut
import Derived.Deep.LoopGhost
import Derived.Deep.RegionHeld3
import Derived.Deep.RegionWith
import Derived.IntWalk
import Derived.KernelRfl
import Derived.Laws.AppendOwn
import Derived.Laws.Bits64
import Derived.Laws.Bits64b
import Derived.Laws.BitsLemmas
import Derived.Laws.Entries
import Derived.Laws.Rows
import Derived.Laws.Tables
import Derived.Laws.World
import Derived.Lib.SliceRun
import Derived.Lib.Tables
import Derived.LoopN
import Derived.Maps.AppendAt
import Derived.Maps.Keyed
import Derived.Maps.Own
import Derived.Maps.Views
import Derived.Orders
import Derived.OwnWalk
import Derived.RangeFuncLeaves
import Derived.RangeFuncOwn
import Derived.RangeFuncRecord
import Derived.RowKit
import Derived.Sort.Grow
import Derived.Tactics
import Derived.Tactics2
import Derived.WalkArith
import Derived.WalkKit
set_option linter.defProp false
namespace Go.Proofs.YtdhifkbbjlhcaaaGreatDoor
open Go Go.RowKit
theorem aF {P:Prop} (h:P:=by kernel_rfl):P:=h
theorem ak {P:Prop} (h:P:=by omega):P:=h
theorem aT {P:Prop} (h:P:=by decide):P:=h
theorem iW {P:Prop} (h:P:=by rfl):P:=h
theorem dF {P:Prop} (h:P:=by simp):P:=h
theorem fE {P:Prop} (h:P:=by simp;omega):P:=h
theorem lV {P:Prop} (h:P:=by assumption):P:=h
theorem gM {P:Prop} (h:P:=by simp [Act.eval]):P:=h
theorem Fh {P:Prop} (h:P:=by simp [d9,Value.oneCell',aV]):P:=h
theorem Ci {P:Prop} (h:P:=by simp [Value.oneCell']):P:=h
theorem aZ {α:Type} (a:α):∃x,a=x:=⟨_,rfl⟩
abbrev ay:=World
abbrev J (n:Int):Value:=.int .i64 n
abbrev O (n:Int):Value:=.int .u64 n
abbrev Z (w:World):World->Prop:=Below w.heap.size w
theorem dY {w:World} {o:Obj}:Below w.heap.size w (w.alloc o):=(Below.refl _ _).alloc (Nat.le_refl _) _
theorem fK {w:World} {b:Nat} {cs:Array Value} {e:TypeId} {f:Nat×Nat} {v:Value} (k:Nat) (h:w.heap[b]?=some (.cells cs e f)) (hv:cs[k]?=some v:=by rfl):w.cell? ⟨b,k,none⟩=some v:=by
  unfold World.cell?;rw [h];simpa using hv
theorem jE {p:Prop} {S:World->Prop} {M K:Act->World->Prop} {a:Act} {w:World} (h:Shut (∀a w,(p->S w)->((p->S w)->M a w)->K a w)) (s:S w) (n:M a w):K a w:=h.out a w (fun _=>s) fun _=>n
theorem aED:type_of% @Go.World.cell?.match_1.congr_eq_1:=@Go.World.cell?.match_1.congr_eq_1
theorem aEE:type_of% @Go.World.frozen?.match_1.congr_eq_1:=@Go.World.frozen?.match_1.congr_eq_1
theorem aEF:type_of% @Go.World.setCell.match_1.congr_eq_1:=@Go.World.setCell.match_1.congr_eq_1
theorem aa5:type_of% @Go.ready_mono:=@Go.ready_mono
def aki:=@Go.Region.noSelect_spec
theorem lW:type_of% @Bool.and_eq_true:=@Bool.and_eq_true
theorem jO:type_of% @List.setIfInBounds_toArray:=@List.setIfInBounds_toArray
theorem jX:type_of% @List.set_cons_zero:=@List.set_cons_zero
theorem jg:type_of% @List.set_cons_succ:=@List.set_cons_succ
def sW:=@Int.mul_nonneg
def Cj:=@Int.mul_le_mul
theorem aJ:type_of% @if_pos:=@if_pos
def uG:=@Int.ediv_nonneg
def GX:=@Int.ediv_le_self
def yC:=@Int.emod_nonneg
def yD:=@Int.emod_lt_of_pos
theorem yE:type_of% @Int.mul_ediv_add_emod:=@Int.mul_ediv_add_emod
def sZ:=@Int.mul_le_mul_of_nonneg_left
def SB:=@Int.ediv_le_ediv
def Nw:=@Int.mul_le_mul_of_nonneg_right
def DN:=@Int.ediv_lt_of_lt_mul
theorem JG:type_of% @Int.add_mul_ediv_right:=@Int.add_mul_ediv_right
theorem au:type_of% @if_neg:=@if_neg
theorem d_:type_of% @Go.IntKind.wrap_u64:=@Go.IntKind.wrap_u64
theorem GY:type_of% @Int.ediv_eq_zero_of_lt:=@Int.ediv_eq_zero_of_lt
theorem SC:type_of% @Int.mul_comm:=@Int.mul_comm
theorem Zv:type_of% @Int.le_ediv_iff_mul_le:=@Int.le_ediv_iff_mul_le
theorem Ny:type_of% @Nat.mul_comm:=@Nat.mul_comm
def Zw:=@Nat.pow_le_pow_left
def Zx:=@Nat.mul_le_mul_right
theorem aC:type_of% @Nat.le_refl:=@Nat.le_refl
def BM:=@Nat.mul_le_mul
def bM:=@Nat.le_trans
def DR:=@Int.le_trans
theorem bO:type_of% @List.getElem?_eq_some_iff:=@List.getElem?_eq_some_iff
def aY:=@List.getElem?_eq_getElem
def Zy:=@List.ext_getElem?
def ni:=@Nat.zero_le
theorem GZ:type_of% @List.mem_range:=@List.mem_range
theorem DT:type_of% @if_true:=@if_true
theorem JH:type_of% @List.filter_eq_self:=@List.filter_eq_self
theorem SE:type_of% @List.length_range:=@List.length_range
theorem mP:type_of% @List.cons_append:=@List.cons_append
theorem Zz:type_of% @List.take_succ_eq_append_getElem:=@List.take_succ_eq_append_getElem
theorem nS:type_of% @decide_eq_true_eq:=@decide_eq_true_eq
theorem lZ:type_of% @List.mem_cons:=@List.mem_cons
theorem qH:type_of% @List.pairwise_cons:=@List.pairwise_cons
theorem pJ:type_of% @List.mem_cons_self:=@List.mem_cons_self
theorem ny:type_of% @List.mem_cons_of_mem:=@List.mem_cons_of_mem
theorem Nz:type_of% @Go.bits_and_u64_nat:=@Go.bits_and_u64_nat
theorem aU:type_of% @Go.World.block_lt_of_cell?:=@Go.World.block_lt_of_cell?
def b_:=@Go.bodyPost_ret
theorem gL:type_of% @Nat.lt_of_lt_of_le:=@Nat.lt_of_lt_of_le
theorem SF:type_of% @Go.World.cell?_of_block:=@Go.World.cell?_of_block
theorem vV:type_of% @Go.World.size_setCell:=@Go.World.size_setCell
theorem gy:type_of% @Go.RowKit.Below.heap_setCell:=@Go.RowKit.Below.heap_setCell
theorem iI:type_of% @Go.World.size_alloc:=@Go.World.size_alloc
def iM:=@Go.RowKit.Below.heap_alloc
theorem DU:type_of% @Go.World.putObj_heap_other:=@Go.World.putObj_heap_other
def ji:=@Option.some.inj
def aS:=@Array.getElem?_eq_some_iff
theorem tu:type_of% @List.drop_eq_getElem_cons:=@List.drop_eq_getElem_cons
theorem bS:type_of% @Go.heap_setCell_same:=@Go.heap_setCell_same
theorem DV:type_of% @List.length_eq_zero_iff:=@List.length_eq_zero_iff
theorem rJ:type_of% @Nat.zero_add:=@Nat.zero_add
theorem JI:type_of% @Go.wpList_append_own_at:=@Go.wpList_append_own_at
theorem aK:type_of% @Go.heap_alloc_new:=@Go.heap_alloc_new
theorem dS:type_of% @decide_eq_true:=@decide_eq_true
theorem dH:type_of% @decide_eq_false:=@decide_eq_false
theorem SG:type_of% @Int.tdiv_eq_ediv_of_nonneg:=@Int.tdiv_eq_ediv_of_nonneg
theorem kR:type_of% @Go.RowKit.Below.trans:=@Go.RowKit.Below.trans
theorem jm:type_of% @Go.RowKit.Below.mono:=@Go.RowKit.Below.mono
theorem gN:type_of% @Go.RowKit.Below.size:=@Go.RowKit.Below.size
theorem fO:type_of% @Go.IntKind.wrap_i64:=@Go.IntKind.wrap_i64
theorem aI:type_of% @Go.RowKit.Below.refl:=@Go.RowKit.Below.refl
theorem BN:type_of% @Go.RowKit.Below.drew:=@Go.RowKit.Below.drew
theorem NA:type_of% @Bool.eq_false_iff:=@Bool.eq_false_iff
def SI:=@List.length_filter_le
def dW:=@List.mem_of_getElem?
theorem jH:type_of% @List.mem_map:=@List.mem_map
theorem jI:type_of% @List.getElem?_map:=@List.getElem?_map
theorem vW:type_of% @List.append_nil:=@List.append_nil
theorem tC:type_of% @List.length_append:=@List.length_append
theorem vX:type_of% @List.length_take:=@List.length_take
theorem dK:type_of% @List.length_cons:=@List.length_cons
theorem rM:type_of% @Go.run_underlying:=@Go.run_underlying
theorem kS:type_of% @List.getElem?_of_mem:=@List.getElem?_of_mem
theorem rO:type_of% @Bool.true_and:=@Bool.true_and
theorem JJ:type_of% @decide_eq_false_iff_not:=@decide_eq_false_iff_not
theorem iN:type_of% @Ne.symm:=@Ne.symm
theorem SK:type_of% @List.getElem?_append_right:=@List.getElem?_append_right
theorem dL:type_of% @List.length_map:=@List.length_map
theorem SL:type_of% @List.range_succ:=@List.range_succ
theorem NC:type_of% @List.nodup_cons:=@List.nodup_cons
theorem kL:type_of% @Int.le_refl:=@Int.le_refl
theorem ND:type_of% @Nat.zero_mul:=@Nat.zero_mul
theorem JK:type_of% @Int.toNat_of_nonneg:=@Int.toNat_of_nonneg
def G5:=@Go.Lib.run_index_len8tab
theorem ZA:type_of% @Bool.false_and:=@Bool.false_and
theorem vY:type_of% @List.drop_of_length_le:=@List.drop_of_length_le
def NG:=@Go.Maps.keyOf_int_mk
def NH:=@Go.Maps.int_keyed
def NI:=@Go.plainElem_int
theorem PI:type_of% @Option.isSome_none:=@Option.isSome_none
theorem pW:type_of% @Option.getD_some:=@Option.getD_some
theorem Ck:type_of% @Option.isSome_some:=@Option.isSome_some
theorem gJ:type_of% @Int.toNat_natCast:=@Int.toNat_natCast
def fA:=@Go.info_parts
def Fj:=@Go.Lib.run_eql_slice_nil
theorem Fp:type_of% @Go.Maps.has_put_same:=@Go.Maps.has_put_same
theorem Cn:type_of% @Go.Maps.atKey_put_same:=@Go.Maps.atKey_put_same
theorem xG:type_of% @Go.Maps.has_put_other:=@Go.Maps.has_put_other
theorem yY:type_of% @Go.Maps.atKey_put_other:=@Go.Maps.atKey_put_other
def JL:=@Go.World.ownsMap_made
theorem pX:type_of% @List.mem_append:=@List.mem_append
def Co:=@Go.cell_one_new
theorem yZ:type_of% @List.pairwise_map:=@List.pairwise_map
theorem l8:type_of% @Go.World.ownsRow_nil:=@Go.World.ownsRow_nil
theorem kT:type_of% @List.take_add_one:=@List.take_add_one
theorem jh:type_of% @List.length_nil:=@List.length_nil
theorem xH:type_of% @List.take_of_length_le:=@List.take_of_length_le
def vB:=@Go.WalkArith.wf_i64
theorem aP:type_of% @congrArg:=@congrArg
theorem xI:type_of% @Go.setRow_heap:=@Go.setRow_heap
def qV:=@Go.results_none
theorem Fq:type_of% @List.take_append_drop:=@List.take_append_drop
theorem Cq:type_of% @List.append_assoc:=@List.append_assoc
theorem Ct:type_of% @Nat.lt_irrefl:=@Nat.lt_irrefl
theorem tF:type_of% @List.pairwise_iff_getElem:=@List.pairwise_iff_getElem
def JM:=@Nat.eq_of_testBit_eq
theorem oC:type_of% @List.take_length:=@List.take_length
theorem Fu:type_of% @Go.rounds_succ:=@Go.rounds_succ
theorem vC:type_of% @List.all_eq_true:=@List.all_eq_true
theorem za:type_of% @Go.Sort.alloc_eq_grow:=@Go.Sort.alloc_eq_grow
theorem JN:type_of% @Go.Sort.grow_grow:=@Go.Sort.grow_grow
theorem vD:type_of% @List.size_toArray:=@List.size_toArray
theorem vE:type_of% @Array.replicate_succ:=@Array.replicate_succ
theorem vF:type_of% @Array.replicate_zero:=@Array.replicate_zero
theorem vG:type_of% @List.push_toArray:=@List.push_toArray
theorem vH:type_of% @List.append_toArray:=@List.append_toArray
theorem pY:type_of% @List.nil_append:=@List.nil_append
theorem nI:type_of% @List.map_cons:=@List.map_cons
def jY:=@of_decide_eq_true
theorem PL:type_of% @List.Perm.eq_of_pairwise:=@List.Perm.eq_of_pairwise
def PN:=@List.Pairwise.filter
theorem JO:type_of% @List.perm_ext_iff_of_nodup:=@List.perm_ext_iff_of_nodup
theorem mV:type_of% @Go.World.ownsRow.lt:=@Go.World.ownsRow.lt
theorem JQ:type_of% @Bool.eq_iff_iff:=@Bool.eq_iff_iff
theorem xJ:type_of% @List.mem_filter:=@List.mem_filter
def PO:=@List.mem_or_eq_of_mem_set
theorem PS:type_of% @List.filter_congr:=@List.filter_congr
theorem JR:type_of% @Nat.testBit_two_pow_mul_add:=@Nat.testBit_two_pow_mul_add
def PU:=@Nat.lt_of_le_of_lt
theorem Fv:type_of% @List.map_map:=@List.map_map
theorem lI:type_of% @Go.RowKit.Below.block:=@Go.RowKit.Below.block
def JU:=@List.mem_of_mem_take
theorem tH:type_of% @List.getElem_mem:=@List.getElem_mem
def Cu:=@Go.step_append_lies
def Cv:=@Go.World.ownsRow.alloc
def mg:=@Go.callsIn_wide
def JV:=@Go.callsIn_of_wp_marks
def Fw:=@Go.run_takeDeferred
theorem xK:type_of% @Go.grownBy_putObj':=@Go.grownBy_putObj'
theorem Fx:type_of% @Bool.not_eq_true':=@Bool.not_eq_true'
def JX:=@List.mem_of_find?_eq_some
theorem xL:type_of% @List.take_zero:=@List.take_zero
theorem Fy:type_of% @Go.run_loadVar_row:=@Go.run_loadVar_row
theorem gX:type_of% @Go.setRow_other:=@Go.setRow_other
def eF:=@Go.wpList_store_row
theorem Fz:type_of% @List.length_set:=@List.length_set
theorem Cw:type_of% @List.getElem?_set_self:=@List.getElem?_set_self
theorem JY:type_of% @List.set_set:=@List.set_set
def vI:=@Go.World.news_of_block
theorem JZ:type_of% @Go.KeepsOthers.setCell:=@Go.KeepsOthers.setCell
def mW:=@Go.wp_store_row
theorem p9:type_of% @List.map_append:=@List.map_append
def vJ:=@List.forall_mem_cons
def J2:=@List.forall_mem_nil
def oD:=@Go.DataW.trod_int
def vK:=@Decidable.byContradiction
theorem atq {P:Prop} (h:P:=by
 go_wp2;go_loopg [14] q (fun gk p wr=>∃j:Nat,j+gk=q/\p=J j/\w=wr/\s.data.toList.all iR=(s.data.toList.drop j).all iR)
 case atStart=>exact⟨0,by omega,rfl,rfl,by simp⟩
 case round=>
  obtain⟨j,hj,rfl,rfl,hinv⟩:=hrel;by_cases hlt:j<q
  ·have hlt':(j:Int)<q:=ak;have hjs:j<s.size:=ak;rw[zh hjs]at hinv;have hsg:=SN s[j] w;have⟨ob,hob⟩:=aZ (iR s[j]);rw[hob]at hinv hsg;have HI:Hid _:=hinv;clear hinv hob;go_wp2_with fail
   refine hsg.mono ?_;rintro e w1 ⟨rfl,rfl⟩
   cases ob with
   | true=>
    have HJ:Hid (s.data.toList.all iR=(s.data.toList.drop (j+1)).all iR):=show s.data.toList.all iR=(s.data.toList.drop (j+1)).all iR by rw[HI.out,rO]
    clear HI;go_wp2;go_roundg (q - (j+1))
    case measure=>omega
    case rel=>exact⟨j+1,by omega,rfl,rfl,HJ.out⟩
   | false=>
    have HJ:Hid (s.data.toList.all iR=false):=show s.data.toList.all iR=false by rw[HI.out,ZA]
    clear HI;go_wp2;go_ret;exact⟨by rw[HJ.out];rfl,rfl⟩
  ·obtain rfl:j=q:=ak;have HI:Hid (s.data.toList.all iR=true):=show s.data.toList.all iR=true by
    rw[hinv,vY (by simp;exact Nat.le_of_eq hq)]
    rfl
   clear hinv;go_wp2;go_ret;exact⟨by rw[HI.out];rfl,rfl⟩):P:=h
theorem atr {P:Prop} (h:P:=by
 unfold gY jbV at *;obtain⟨q0,q1,q2,q3,q4,q5,q6,q7,q8,q9,q10,q11,q12,q13,q14,q15,_,_⟩:=id hp;clear hp;go_enter func155,ntmps155;go_wp2_with fail
 refine cc.mono ?_;rintro e x1 ⟨rfl,hb1⟩;have HP2:Hid _:=HP1.out.below hb1;clear cc hb1 HP1 q0 q1 q2 q3 q4 q5 q6 q7 q8 q9 q10 q11 q12 q13 q14 q15 hw1;obtain⟨q0,q1,q2,q3,q4,q5,q6,q7,q8,q9,q10,q11,q12,q13,q14,q15,_,_⟩:=id HP2.out;have c2:=HWA.out x1;go_wp2_with fail
 refine c2.mono ?_;rintro e x2 ⟨rfl,hb2⟩;have HP3:Hid _:=HP2.out.below hb2;clear c2 hb2 HP2 q0 q1 q2 q3 q4 q5 q6 q7 q8 q9 q10 q11 q12 q13 q14 q15;have BO:Hid _:=HP3.out.dQ;go_wp2;go_ret;exact⟨by rw[HV.out];rfl,BO.out⟩):P:=h
theorem atu {P:Prop} (h:P:=by have x12:wr.drew.cell? ⟨x,12,none⟩=some (J s.hd):=H2.out.cell rfl;have f12:wr.drew.frozen? ⟨x,12,none⟩=false:=aD H2.out.blk;have p1:=fK 1 HGB.out;have hb:=aA wr;have H7:Hid _:=(H2.out.below hb).field (q:=12) (v:=J ho) (now':=s.now) (hd':=ho) rfl;have HM7:Hid _:=(HT.out.mv.below hb).trans (vZ (q:=12) (v:=J ho) H2.out.lx);have HE7:Hid _:=(HT.out.ev.below hb).mv (vZ (q:=12) (v:=J ho) H2.out.lx);have HNO:Hid _:=hno;clear bG hno;go_wp2;go_ret;exact⟨_,rfl,uN,by first | exact HT.out.evs | (rw[au HNO.out,vW];exact HT.out.evs),oh,⟨P2,L2,F2,H7.out,HT.out.ps,HL2.out,MW.out⟩,HM7.out,HE7.out⟩):P:=h
theorem atw {P:Prop} (h:P:=by
 have k:=SQ ah bh h1 h3 ak;have k':decide (ah<=IntKind.u64.wrap (ah+bh))=false:=fE;obtain⟨a1,a2⟩:=h1;obtain⟨b1,b2⟩:=h2;obtain⟨c1,c2⟩:=h3;obtain⟨d1,d2⟩:=h4;go_enter func94,ntmps94;go_wp2_with (go_at_call 95;refine(vL _).mono ?_;rintro e w1 ⟨rfl,hb⟩;have⟨hc,hf⟩:=lu hb)
 have hz:=hb.size;simp at hz;refine b_ (v:=.tuple #[.agg #[O 18446744073709551615,O 18446744073709551615],.bool false]) (by simp[results,results94,go_sem,hc]) rfl ⟨rfl,?_⟩;exact(((((dY.alloc dF _).alloc fE _).alloc fE _).trans (hb.mono fE)).setCell fE _).setCell fE _):P:=h
theorem atx {P:Prop} (h:P:=by
 intro j hj;rw[Sort.size_flatK]at hj;have hj':j / 2<d.length:=by simp at hj;omega
 have hd:=hcur (j / 2) d[j / 2] (aY hj');refine⟨?_,aD hc⟩;rw[Sort.get_flatK _ _ _ _ hj,rJ];have e1:d.toArray[j / 2]! =d[j / 2]:=by simp[hj']
 rw[e1];by_cases h2:j % 2=0
 ·rw[h2];refine aj hc ?_;have:=hd.1;rw[show j / 2*2=j by omega]at this;exact this
 ·have h1:j % 2=1:=ak;rw[h1];refine aj hc ?_;have:=hd.2;rw[show j / 2*2+1=j by omega]at this;exact this):P:=h
theorem aty {P:Prop} (h:P:=by
 have h1:=H.2 j (aa5 hj hji);have h2:=wpOp_putIf hoj (hfree j oj hoj hji hjun hnot) (fun cs b=>hsel i oi cs b hi) (fun cs b=>hsel j oj cs b hoj) hQ hy h1;have hfree':∀k ok,ops[k]?=some ok->k≠i->(listed.setIfInBounds j true).getD k true=false->(∀e∈ok.after,Region.binds md e=true->e.on≠i)->oi.apart ops ok=true:=fun k ok hk hki hun hno=>by
  refine hfree k ok hk hki ?_ hno;by_cases hjk:j=k
  ·grind
  simp_all
 grind[wpOp_mono,aa5,Array.setIfInBounds_comm]):P:=h
theorem atz {P:Prop} (h:P:=by
 go_wp2_with (first
  | (go_at_call 30;refine(iq _ _).mono ?_;rintro e w2 ⟨rfl,b2⟩;have⟨iJ,jW,hsA⟩:=dM (dB.below HA1.out b2))
  | (refine eF rfl 42 (.tmp 4) (.tmp 25) rfl (w.heap.size+1) (d9 (coded 181) aV aV aV) gM gM 42 iJ jW.out Tryz.lJ hsA Fh ?_))
 rw[hS'];exact eD results55 rfl rfl jW.out rfl ⟨lab,_,rfl,⟨P,L,F,(H1.out.below b2).ret qW iX _,hjs,hL,hF⟩,(Bu.out.below b2).ret ak _,iw _ _ _ _⟩):P:=h
theorem atA {P:Prop} (h:P:=by
 go_enter func282,ntmps282;by_cases h1:a<b
 ·go_wp2_with (go_at_call 289;refine(DW _ _).mono ?_;rintro e w' ⟨rfl,rfl⟩)
  go_ret;simp[kU,h1]
 ·by_cases h2:b<a
  ·go_wp2_with (go_at_call 289;refine(DW _ _).mono ?_;rintro e w' ⟨rfl,rfl⟩)
   go_ret;simp[kU,h1,h2]
  ·go_wp2_with (go_at_call 289;refine(DW _ _).mono ?_;rintro e w' ⟨rfl,rfl⟩)
   go_ret;have e1:¬a<b:=ak;have e2:¬b<a:=ak;simp[kU,e1,e2]):P:=h
theorem atB {P:Prop} (h:P:=by replace HJ:Hid (JW w7 gj []/\_):=⟨JW.below HJ.out.1 b7,HJ.out.2⟩;replace HM:Hid (jq w7 wm []/\_):=⟨jq.same HM.out.1 (b7.block _ (jq.lt HM.out.1)),HM.out.2⟩;clear hA7 b7;go_simp;refine jE hK WW ?_;clear hK K;have s1:=HJ.out.2;have s2:=HM.out.2;have s3:=HAG.out.2;have s4:=WW.size;have zd:w4.drew.heap.size=w4.heap.size:=rfl;exact akk.out gj wm m w7 ⟨WW,HJ.out.1,HM.out.1,HAG.out.1,by omega,by omega,by omega⟩):P:=h
theorem atC {P:Prop} (h:P:=by
 go_wp2_with fail
 refine(qE hw.raw gk b hk MZ).mono ?_;rw[hpb];rintro e w1 ⟨rfl,hg⟩;have hw1:=hw.grew hg;go_wp2_with fail
 refine(PX hw1.raw gk b hk MZ).mono ?_;rintro e w2 ⟨rfl,hr2,hc2⟩;have hw2:=hw1.swap hk MZ hr2 hc2;go_wp2;go_roundg (n - b)
 case measure=>have:=HGK.out;have:=HB.out;have:=HC.out;omega
 case rel=>exact⟨_,rfl,rfl,MZ,_,hw2,.inr (hu.hole.step hl (ZC _ _ hpb))⟩):P:=h
theorem ZE {P:Prop} (h:P:=by intro xx bJ;have q8:xx.cell? ⟨x,8,none⟩=some (J s.now):=(H2.out.below bJ).cell rfl;have q15:xx.cell? ⟨x,15,none⟩=some (.pointer (some ⟨P.b,0,none⟩)):=(H2.out.below bJ).cell rfl;have q12:xx.cell? ⟨x,12,none⟩=some (J s.hd):=(H2.out.below bJ).cell rfl;clear bJ;go_simp;try (with_reducible rfl)):P:=h
theorem anB {P:Prop} (h:P:=by
 refine ⟨rfl,rfl,rfl,?_,fun k hk hne=>?_⟩
 ·simp[sortWorldK,Sort.grow,Sort.putRowK,Sort.putRow,Sort.mapBlock,Sort.ahead]
 ·show ((w.heap.modify blk _)++os)[k]?=w.heap[k]?;rw[Array.getElem?_append_left (by simpa using hk),Array.getElem?_modify];have:blk≠k:=fun e=>hne e.symm;simp[this]):P:=h
theorem aeX {P:Prop} (h:P:=by
 go_wp2_with (first
  | (go_at_call 9;refine hs.mono ?_;rintro e w1 ⟨rfl,b1⟩;have⟨q0,q1,q2,q3,q4,q5,q6,q7⟩:=(HB.out.box.below b1).cells)
  | (go_at_call 10;refine(hb _).mono ?_;rintro e w2 ⟨rfl,b2⟩))
 go_ret;exact⟨rfl,HB.out.dQ.trans ((b1.trans (b2.mono b1.size)).mono HB.out.dQ.size)⟩):P:=h
theorem anC {P:Prop} (h:P:=by
 go_wp2_with fail
 refine(c1 _).mono ?_;rintro e w1 ⟨rfl,b1⟩;replace hS:=keepW hS b1;clear b1;obtain⟨s0,s1,s2,s3,s4,s5,s6,s7,_,_⟩:=id hS;go_wp2_with fail
 refine(c2 _).mono ?_;rintro e w2 ⟨rfl,b2⟩;replace hS:=keepW hS b2;clear b2 s0 s1 s2 s3 s4 s5 s6 s7;go_wp2;go_ret;exact⟨rfl,hS.dQ⟩):P:=h
theorem anD {P:Prop} (h:P:=by
 have HRN:Hid (tJ F f cf now (jl.take (k+1)) 0=tJ F f cf now (jl.take k) 0):=HPN.out hpb;have pq:(j.st==1)=true:=by simp[p1]
 clear HPN hpb;go_wp2;go_roundg (N - (k+1))
 case measure=>omega
 case rel=>exact⟨k+1,by omega,by first | rfl | (rw[HWK.out]),by rw[HRN.out];exact HO3.out⟩):P:=h
theorem anF {P:Prop} (h:P:=by
 go_upto_region 1 with fail
 go_region_held3 (cS w c) (first | exact HS.out | exact keepW lV lV)
  (first
   | (go_at_call 124;refine(cW _).mono ?_;rintro e x ⟨rfl,hx⟩))
 all_goals
  have hS:St w w.heap.size c x:=lV
  have hB:=hS.dQ
  clear hS HS
  go_wp2
  go_ret
  exact⟨rfl,hB⟩):P:=h
theorem aeY {P:Prop} (h:P:=by rw[← uH];exact⟨aH.below (nE (K:=fun k=>k=gp) (aH.refl _ w4) (.inl rfl) _) yN (gN yN) (fun i hi=>by have:=HLO.out;omega),row_of HST.out (fun j hj=>gX _ _ j _ (fun e=>HNE.out (by rw[← e];exact hj))),xI _ _ _ _ _ _ FB.out,HLO.out,HNE.out⟩):P:=h
theorem anG {P:Prop} (h:P:=by
 go_wp2_with fail
 refine(qE hw.raw gk b hk MZ).mono ?_;rw[hpb];rintro e w1 ⟨rfl,hg⟩;have hw1:=hw.grew hg;go_wp2;refine b_ (qV rfl _ _ _) rfl ?_;exact⟨rfl,h',hw1,hu.stop (fun k a1 a2 a3=>(PY _ _ hpb).trans (hl.2.2.2 k a1 a2 a3))⟩):P:=h
theorem anH {P:Prop} (h:P:=by
 rintro B k e A hB he ⟨h2,h3⟩;have⟨fn,tmps,assign,body,hy,hRd⟩:=hrnd (B,k,A) e A ⟨he,aH.refl _ _,h2⟩ h3;refine⟨fn,tmps,assign,body,hy,hRd.mono ?_⟩;rintro rr A' (⟨rfl,⟨g2,g3⟩,g4⟩ | ⟨rfl,c,h,g4⟩)
 ·exact .inl ⟨rfl,⟨g3,g4⟩,g2⟩
 ·exact h.elim):P:=h
theorem anI {P:Prop} (h:P:=by
 have⟨e1,e2⟩:=akm (N:=n) (n:=x) hb ak;rw[e1,e2];have HL:Hid (zi n f B w d v l):=h;clear h;go_enter func188,ntmps188;go_wp2_with fail
 refine hh.mono ?_;rintro e w1 ⟨rfl,rfl⟩;go_wp2;go_ret;exact⟨rfl,HL.out,aH.refl _ _⟩):P:=h
theorem SS {P:Prop} (h:P:=by
 go_enter func129,ntmps129;go_wp2_with fail
 go_region_with (first | (go_at_call 86;refine(hr _).mono ?_;rintro e w1 ⟨rfl,b1⟩;have⟨x0,x1,x2,x3,x4⟩:=KP.out _ b1))
 all_goals (go_wp2;go_ret)
 all_goals exact⟨rfl,FIN.out _ b1⟩):P:=h
theorem anJ {P:Prop} (h:P:=by obtain⟨rfl,rfl⟩:=hnil rfl;have hn0:=DV.1 (by rw[hl];omega);subst hn0;exact wpList_append_own_none hgd s x t ho base e i size ht hi v n xs hs hown hx (h v w (by grind) ⟨rfl,rfl,rfl,aC _,fun _ _ _=>rfl⟩)):P:=h
theorem anK {P:Prop} (h:P:=by
 have HM:Hid _:=hm;clear hm;go_wp2_with fail
 refine hoa.mono ?_;rintro e w1 ⟨rfl,rfl⟩;go_wp2;go_roundg (q - (j+1))
 case measure=>omega
 case rel=>exact⟨j+1,_,by omega,rfl,by rw[HM.out],HS.out,rfl,HI.out⟩):P:=h
theorem aeZ {P:Prop} (h:P:=by
 unfold oG at hj;by_cases h0:0<=c.jb
 ·rw[aJ h0]at hj;have:=List.getElem?_eq_none_iff.1 hj;rw[dH (show ¬c.jb<=(P.ps.length:Int) - 1 by omega),Bool.and_false]
 ·rw[dH h0,ZA]):P:=h
theorem ZF {P:Prop} (h:P:=by
 clear h0 h1 h2 h3;go_wp2_with fail
 refine(ck _).mono ?_;rintro e w1 ⟨rfl,b1⟩;have B1:Hid _:=hB.out.trans (b1.mono hB.out.size);clear b1;go_wp2;go_ret;exact⟨by rw[HV.out];rfl,B1.out⟩):P:=h
theorem anL {P:Prop} (h:P:=by
 obtain rfl:j=q:=ak;have hno:p∉xs:=fun hm=>by have⟨i,hi⟩:=kS hm;exact hinv i p (by have:=(bO.1 hi).1;omega) hi rfl
 clear hinv;go_wp2;go_ret;exact⟨⟨-1,rfl,by simp[hno]⟩,rfl⟩):P:=h
theorem anM {P:Prop} (h:P:=by
 go_wp2;go_roundg (m - (k+1))
 case measure=>omega
 case rel=>exact⟨k+1,H,T,by omega,rfl,rfl,by go_num,J3,r.1,HD6.out,HDC.out.trans ae0.out,akn.out _ _ rfl rfl,HL6.out,H94.out⟩):P:=h
theorem anN {P:Prop} (h:P:=by
 go_enter func90,ntmps90;go_wp2_with fail
 refine(cE _).mono ?_;rintro e w1 ⟨rfl,rfl⟩;go_wp2_with fail
 refine(cU _).mono ?_;rintro e w1 ⟨rfl,rfl⟩;go_wp2;go_ret;exact⟨rfl,dY⟩):P:=h
theorem anO {P:Prop} (h:P:=by
 go_wp2_with fail
 refine(apL u hu _).mono ?_;rintro e w1 ⟨rfl,hb1⟩;go_wp2;go_ret2
 exact⟨rfl,(dY.trans (hb1.mono dF)).alloc (by have:=hb1.size;simp at this;omega) _⟩):P:=h
theorem anP {P:Prop} (h:P:=by
 rcases hk with e | ⟨n,e⟩
 ·rw[e];exact v
 ·refine J4 v hw (by rw[e,SV];exact aC _) (fun i a ha=>.inl ?_)
  rw[e]at ha;exact ZG (by intro _;rfl) ha):P:=h
theorem anQ {P:Prop} (h:P:=by
 go_enter func154,ntmps154;go_wp2_with fail
 refine hi.mono ?_;rintro e w1 ⟨⟨i,rfl,hd⟩,rfl⟩;have HD:Hid _:=hd;clear hd;go_wp2;go_ret;exact⟨by rw[← HD.out];rfl,rfl⟩):P:=h
theorem anR {P:Prop} (h:P:=by
 have⟨cs,hcs⟩:=wh h.row hk;refine hg.block k (aS.1 hcs).1 (fun e=>?_);obtain⟨_,o,ho,hc⟩:=hr k e.symm;rw[hcs]at ho;injection ho with ho;subst ho
 cases hc):P:=h
theorem anS {P:Prop} (h:P:=by have h0:=(hh.cell (i:=j) (c:=0) (by simpa using hj) aT).1;have h1:=(hh.cell (i:=j) (c:=1) (by simpa using hj) aT).1;rw[ex,rJ]at h0 h1;exact⟨h0,h1⟩):P:=h
theorem anT {P:Prop} (h:P:=by exact(((((dY.alloc dF _).trans (hb.mono fE)).alloc ak _).trans (hb2.mono fE)).alloc ak _ |>.trans (hb3.mono fE)).setCell dF _ |>.setCell dF _):P:=h
theorem anU {P:Prop} (h:P:=by
 go_enter func74,ntmps74;go_wp2_with fail
 refine(c1 _).mono ?_;rintro e w1 ⟨rfl,b1⟩;have hB:=(keepW hS b1).dQ;clear hS b1;go_wp2;go_ret;exact⟨rfl,hB⟩):P:=h
theorem anV {P:Prop} (h:P:=by
 go_wp2;go_loopg [5] 0 (fun gk p wr=>p=J 0/\w=wr)
 case atStart=>exact⟨rfl,rfl⟩
 case round=>obtain⟨rfl,rfl⟩:=hrel;go_wp2;go_ret;exact⟨rfl,rfl⟩):P:=h
theorem anW {P:Prop} (h:P:=by subst he;exact⟨_,rfl,_,_,_,[],_,[],hW',trodAll_mk1 (shut_bool underlying4 _),trodAll_mk2 (a0 W' hg) (a1 W' hg),rfl,hg.frame _,fun h=>by cases h⟩):P:=h
theorem anX {P:Prop} (h:P:=by
 have HI:Hid _:=hinv;clear hinv;go_wp2;go_roundg (q - (j+1))
 case measure=>omega
 case rel=>exact⟨j+1,some r.en,by omega,rfl,rfl,rfl,rfl,HI.out⟩):P:=h
theorem anY {P:Prop} (h:P:=by
 intro listed a w _ hr hy hS H;refine⟨fun h=>(by grind),fun j hj=>?_⟩;by_cases hji:j=i
 ·grind[YieldsIf.wpOp]
 ·have:=aa5 hj hji;grind[gG]):P:=h
theorem anZ {P:Prop} (h:P:=by rw[aJ c];refine⟨fun s hs=>?_,fun hs=>by cases hs⟩;injection hs with hs;subst hs;exact⟨kL _,rfl,c,fun u h1 h2=>by simp only at h2;omega⟩):P:=h
theorem an0 {P:Prop} (h:P:=by
 go_enter func152,ntmps152;go_wp2_with fail
 refine hf.mono ?_;rintro e w1 ⟨rfl,rfl⟩;simp only[pW,Ck];go_wp2;go_ret2
 exact⟨rfl,rfl⟩):P:=h
theorem an1 {P:Prop} (h:P:=by
 have e:Hid (l.all qX=false):=show l.all qX=false by rw[hinv];simp[qX];omega
 clear hinv;go_wp2;go_ret;exact⟨by rw[e.out];rfl,aI _ _⟩):P:=h
theorem an2 {P:Prop} (h:P:=by
 refine⟨h.1,?_⟩;rcases h.2 with h0 | ⟨g,cap,cur,rfl,hb,hg,r⟩
 ·grind
 ·exact .inr ⟨g,cap,cur,rfl,hb,(b.block g (aS.1 hg).1).trans hg,r⟩):P:=h
theorem an3 {P:Prop} (h:P:=by
 rw[← hT.ps,jI]at this
 cases hq:P2.ps[n]? with
 | none=>rw[hq]at this;cases this
 | some p=>rw[hq]at this;cases this;exact⟨p,rfl,rfl⟩):P:=h
theorem an4 {P:Prop} (h:P:=by
 go_wp2_with (go_at_call 221;refine(tK b n F _ _ h).mono ?_;rintro e w' ⟨rfl,rfl⟩;rw[hB])
 go_ret;exact⟨an5 HN.out.symm,rfl⟩):P:=h
theorem an6 {P:Prop} (h:P:=by
 rw[hjo]at aa7
 cases aa7;rw[rJ];exact⟨hc 0 _ rfl,hc 1 _ rfl,hc 2 _ rfl,hc 3 _ rfl,hc 4 _ rfl,hc 5 _ rfl,hc 6 _ rfl,hc 7 _ rfl⟩):P:=h
theorem an7 {P:Prop} (h:P:=by
 go_enter func177,ntmps177;go_wp2_with (go_at_call 218;refine(isnan _ _).mono ?_;rintro e w' ⟨rfl,rfl⟩)
 go_ret;exact⟨by simp,rfl⟩):P:=h
theorem an8 {P:Prop} (h:P:=by refine hd.mono ?_;rintro e w' ⟨v,rfl,lab',D,_,A⟩;obtain⟨ea,ec,ja,jc,ra,rc,rfl,_⟩:=FC A;exact⟨ea,ec,ja,jc,ra,rc,rfl,lab',D⟩):P:=h
theorem ae1 {P:Prop} (h:P:=by
 rw[← hjs,jI]at hjn
 cases hq:P.ps[n]? with
 | none=>rw[hq]at hjn;cases hjn
 | some p=>rw[hq]at hjn;cases hjn;exact⟨p,rfl,rfl⟩):P:=h
theorem an9 {P:Prop} (h:P:=by
 go_enter func77,ntmps77;go_wp2_with fail
 refine hir.mono ?_;rintro e w1 ⟨rfl,b1⟩;go_wp2;go_ret2
 exact J5.no HE.out aT b1):P:=h
theorem zk {P:Prop} (h:P:=by intro xx bJ;have q0:=bJ.mI;have q1:=bJ.box;have q2:=bJ.jobs;have q3:=bJ.nd;clear bJ;go_simp;try (with_reducible rfl)):P:=h
theorem an_ {P:Prop} (h:P:=by
 go_wp2;go_roundg (n - (k+1))
 case measure=>omega
 case rel=>exact⟨k+1,by omega,by go_num,HB.out.trans (bV.mono HB.out.size)⟩):P:=h
theorem ZH {P:Prop} (h:P:=by
 refine⟨h.1,?_⟩;rcases h.2 with h0 | ⟨g,cap,cur,rfl,hb,hgg,r⟩
 ·grind
 ·exact .inr ⟨g,cap,cur,rfl,hb,(hg g rfl).trans hgg,r⟩):P:=h
theorem aoa {P:Prop} (h:P:=by
 go_roundg (q - (j+1))
 case measure=>omega
 case rel=>exact⟨j+1,by omega,rfl,HNX.out hd,HW.out.trans (b2.mono HW.out.size)⟩):P:=h
theorem aob {P:Prop} (h:P:=by
 have e1:=hg.fr;have e2:=Je hg.pos;have e3:s.rs.length=rs.length+s.st.length:=by rw[hg.rs];simp
 have e4:=hg.nn;omega):P:=h
theorem aoc {P:Prop} (h:P:=by go_ret;exact .inr ⟨rfl,⟨_,dW HY.out,HD.out⟩,HB1.out.trans ((HW.out.trans (b2.mono HW.out.size)).mono HB1.out.size)⟩):P:=h
theorem aod {P:Prop} (h:P:=by
 have ok:ob=true:=by rw[Bv,h];rfl
 clear Bv;subst ok;subst h;go_enter func219,ntmps219;go_wp2;go_ret;exact⟨rfl,rfl⟩):P:=h
theorem aoe {P:Prop} (h:P:=by
 rcases lZ.1 hx with rfl | hx
 ·exact .inl dF
 ·rcases g7 x hx with k | k
  ·exact .inl (by simp[k])
  ·exact .inr k):P:=h
theorem aof {P:Prop} (h:P:=by
 have ok:ob=true:=by rw[Bv,h];rfl
 clear Bv;subst ok;subst h;go_enter func141,ntmps141;go_wp2;go_ret;exact⟨rfl,rfl⟩):P:=h
theorem aog {P:Prop} (h:P:=by exact HT.out.dQ.trans ⟨h1.os,h1.tape,h1.output,h1.size,fun j hj=>h1.block j (by have:=HT.out.dQ.size;omega) ak⟩):P:=h
theorem aoh {P:Prop} (h:P:=by have h1:IntKind.i64.min= -9223372036854775808:=rfl;have h2:IntKind.i64.max=9223372036854775807:=rfl;grind[Lit.wf]):P:=h
theorem aoi {P:Prop} (h:P:=by
 rcases j with _ | _ | j
 ·exact (.inl (by simpa using ht.symm))
 ·exact (.inr (by simpa using ht.symm))
 ·simp at ht):P:=h
theorem aoj {P:Prop} (h:P:=by rw[(ae2 nu3 hh).1]at hA;rw[hh]at q0;have HA:Hid _:=hA;clear hA hh;go_wp2;go_ret;exact⟨by rw[← HA.out];rfl,HB⟩):P:=h
theorem ae3 {P:Prop} (h:P:=by
 go_enter func130,ntmps130;go_wp2_with fail
 refine hn.mono ?_;rintro e w1 ⟨rfl,rfl⟩;go_wp2;go_ret;exact⟨rfl,rfl⟩):P:=h
theorem ae4 {P:Prop} (h:P:=by go_ret;refine⟨_,rfl,by simpa using hown,?_⟩;exact b0.grown hgr dF (fun k e=>by simp[Value.ownBlock]at e;omega)):P:=h
theorem aok {P:Prop} (h:P:=by rintro e w1 ⟨rfl,b1⟩;go_wp2;exact b_ (v:=SX need none) (by simp[results,results34,go_sem,SX]) rfl ⟨rfl,b1⟩):P:=h
theorem aol {P:Prop} (h:P:=by
 have ha:(⟨g,0,none⟩:Addr).add k=⟨g,k,none⟩:=by unfold Addr.add;split<;>simp_all
 rw[ha]at this;exact⟨g,rfl,this⟩):P:=h
theorem ae5 {P:Prop} (h:P:=by
 rcases hr.2 with⟨e,h0⟩ | ⟨g,cp,cur,e,hb,hg,h1,h2,h3,h4⟩
 ·rw[h0];exact ni _
 ·injection e with e1 e2 e3;omega):P:=h
theorem aom {P:Prop} (h:P:=by
 clear hinv;go_wp2_with fail
 refine hs.mono ?_;rintro e wx ⟨rfl,rfl⟩;go_wp2;go_ret;exact⟨by rw[HI.out];rfl,rfl⟩):P:=h
theorem aon {P:Prop} (h:P:=by
 have:okF free=false:=by simp[okF];omega
 rw[this,hq];go_enter func68,ntmps68;go_wp2;go_ret;exact⟨rfl,aI _ _⟩):P:=h
theorem aoo {P:Prop} (h:P:=by
 clear hown hbel hL;go_wp2;go_roundg (3 - i)
 case measure=>omega
 case rel=>exact⟨i+1,by omega,by go_num,R1.out⟩):P:=h
theorem aop {P:Prop} (h:P:=by
 go_enter func96,ntmps96;go_wp2_with fail
 refine hh.mono ?_;rintro e w1 ⟨rfl,rfl⟩;go_wp2;go_ret;exact⟨rfl,rfl⟩):P:=h
theorem aoq {P:Prop} (h:P:=by
 by_cases e:j=k
 ·grind
 ·obtain ⟨d,rfl⟩:∃d,j=k+(d+1):=⟨j - k - 1,by omega⟩;have e3:k+(d+1) - k=d+1:=ak;grind):P:=h
theorem ae6 {P:Prop} (h:P:=by
 go_wp2_with fail
 refine hk.mono ?_;rintro e w1 ⟨rfl,rfl⟩;go_wp2;go_ret;exact⟨rfl,Mod.same H.out (aI _ _)⟩):P:=h
theorem aor {P:Prop} (h:P:=by
 go_wp2;go_roundg (n - (i+1))
 case measure=>omega
 case rel=>exact⟨i+1,by omega,by go_num,J3,r.1,HD8.out⟩):P:=h
theorem aos {P:Prop} (h:P:=by
 intro j hj;rcases h.2 with⟨rfl,_⟩ | ⟨g,cap,cur,rfl,hb,hg,r⟩
 ·grind[Value.ownBlock]
 grind[Value.ownBlock]):P:=h
theorem ZI {P:Prop} (h:P:=by have hlt':¬(k:Int)<n:=ak;obtain rfl:k=n:=ak;have HB:Hid _:=hb;clear hb;go_wp2;go_ret;exact⟨rfl,HB.out⟩):P:=h
theorem aot {P:Prop} (h:P:=by unfold Oper.wp;simp[execOp,ho,resolve,invoke,builtin,hs,hx,hrun,Result.andThen];exact hK _ _ r1 r2 r4):P:=h
theorem ae7 {P:Prop} (h:P:=by have hlt':¬(i:Int)<n:=ak;go_wp2;go_ret;exact⟨rfl,HB.out.dQ.trans (HD.out.dQ.mono HB.out.dQ.size)⟩):P:=h
theorem aou {P:Prop} (h:P:=by exact iK hM.starts (fun k e=>by obtain⟨_,cs,hk⟩:=gI hM.starts e;exact kp k cs 3 aT hk)):P:=h
theorem aov {P:Prop} (h:P:=by exact iK hM.runs (fun k e=>by obtain⟨_,cs,hk⟩:=gI hM.runs e;exact kp k cs 108 aT hk)):P:=h
theorem ae8 {P:Prop} (h:P:=by
 go_wp2;go_roundg (m - (k+1))
 case measure=>omega
 case rel=>exact⟨k+1,by omega,by go_num,HB6.out⟩):P:=h
theorem aow {P:Prop} (h:P:=by
 rw[jI]
 cases l[n]? with
 | none=>rfl
 | some a=>simp only[Option.map_some];rw[← NK];rfl):P:=h
theorem ae9 {P:Prop} (h:P:=by
 unfold joinedFacts;simp only[lW];repeat' apply And.intro
 all_goals (as_aux_lemma=>kernel_rfl)):P:=h
theorem aox {P:Prop} (h:P:=by
 go_wp2;go_roundg (q - (j+1))
 case measure=>omega
 case rel=>exact⟨j+1,by omega,rfl,rfl,HI.out⟩):P:=h
theorem aoy {P:Prop} (h:P:=by have⟨la',h1,h2,h3⟩:=ZJ v hl ak aF aT;refine⟨la',h1,h2.trans aF,?_⟩;rw[h3];kernel_rfl):P:=h
theorem aoz {P:Prop} (h:P:=by
 rcases h.2 with⟨rfl,_⟩ | ⟨g,cap,cur,rfl,_,hg,_⟩
 ·grind[Value.ownBlock]
 grind[Value.ownBlock]):P:=h
theorem aoA {P:Prop} (h:P:=by replace e0:Hid (v0=110):=e0;clear HY HN hinv;go_wp2;go_ret;exact⟨by rw[e0.out];rfl,hB2.out⟩):P:=h
theorem ZK {P:Prop} (h:P:=by simp only[Act.put,jO];refine aO aF ?_ _;exact akk.out gp w6 va vc ra rc ZL.out):P:=h
theorem ae_ {P:Prop} (h:P:=by
 rw[hkv];split
 ·rename_i heq
  cases heq;exact absurd rfl he
 ·rename_i heq
  cases heq;rfl):P:=h
theorem aoB {P:Prop} (h:P:=by rw[e1,e2];rintro e w2 ⟨rfl,hb2⟩;go_wp2;go_ret;exact⟨rfl,hb1.trans (hb2.mono hb1.size)⟩):P:=h
theorem aoC {P:Prop} (h:P:=by
 obtain rfl:k=q:=ak;have TK:Hid _:=hTk;clear hTk hls;gi_wp2
 go_end0
 grind[Hid.out]):P:=h
theorem aoD {P:Prop} (h:P:=by go_enter func272,ntmps272;go_wp2;go_ret;exact⟨by first | rfl | simp[h] | simp,hbl⟩):P:=h
theorem aoE {P:Prop} (h:P:=by exact⟨aj hg e0,aj hg e1,aj hg e2,aj hg e3,aj hg e4⟩):P:=h
theorem aoF {P:Prop} (h:P:=by unfold wrap64;refine⟨-((x+9223372036854775808) / 18446744073709551616),?_⟩;omega):P:=h
theorem NM {P:Prop} (h:P:=by go_enter func195,ntmps195;go_wp2;go_ret;exact⟨by rw[HD.out];rfl,dY.alloc dF _⟩):P:=h
theorem afa {P:Prop} (h:P:=by
 rintro e w2 ⟨rfl,hb2⟩;go_wp2;go_ret2
 exact⟨rfl,hb1.trans (hb2.mono hb1.size)⟩):P:=h
theorem aoG {P:Prop} (h:P:=by
 go_wp2;go_ret
 exact⟨by rw[HE.out];rfl,by rw[HE.out];exact Mod.same H.out hB1⟩):P:=h
theorem aoH {P:Prop} (h:P:=by exact(HB.out.trans (b1.mono HB.out.size)).alloc (bM HB.out.size b1.size) _):P:=h
theorem aoI {P:Prop} (h:P:=by
 rintro rr A' ⟨hv,(⟨B,h2,h3⟩ | h)⟩
 ·exact ⟨hv,.inl ⟨⟨B,h2⟩,h3⟩⟩
 ·exact h.elim):P:=h
theorem jZ {P:Prop} (h:P:=by intro x bJ;obtain⟨s1,s2,s3,s4,s5,s6⟩:=bJ;go_simp;try (with_reducible rfl)):P:=h
theorem afb {P:Prop} (h:P:=by rw[this,ZA];go_enter func238,ntmps238;go_wp2;go_ret;exact⟨rfl,aI _ _⟩):P:=h
theorem WX {P:Prop} (h:P:=by
 go_wp2;go_ret
 exact⟨rfl,HB.out.dQ.trans (HD.out.dQ.mono HB.out.dQ.size)⟩):P:=h
theorem WY {P:Prop} (h:P:=by
 rintro e w1 ⟨rfl,rfl⟩;go_wp2;go_ret2
 exact⟨rfl,Mod.same H.out (aI _ _)⟩):P:=h
theorem afc {P:Prop} (h:P:=by have HA:Hid _:=hA;clear hA hh;go_wp2;go_ret;exact⟨by rw[← HA.out];rfl,HB⟩):P:=h
theorem afd {P:Prop} (h:P:=by rintro e w1 ⟨rfl,rfl⟩;go_wp2;go_ret;exact⟨rfl,Mod.same H.out (aI _ _)⟩):P:=h
theorem afe {P:Prop} (h:P:=by have⟨g1,g2,g3⟩:=FD hg hf hn hx xo.n1;exact⟨g1,g2,g3,by simp;omega⟩):P:=h
theorem zl {P:Prop} (h:P:=by clear hl;go_enter func256,ntmps256;go_wp2;go_ret;exact⟨_,rfl,HL.out,rfl⟩):P:=h
theorem WZ {P:Prop} (h:P:=by show wrap64 ((i:Int)+1)=((i+1:Nat):Int);have:=HO.out;unfold wrap64;omega):P:=h
theorem aff {P:Prop} (h:P:=by
 have e:qX r=false:=by simp[qX];omega
 rw[e];go_wp2;go_ret;exact⟨rfl,hb⟩):P:=h
theorem afg {P:Prop} (h:P:=by rintro e w' ⟨rfl,rfl⟩;exact⟨rfl,h,⟨rfl,rfl,rfl,aC _,fun _ _ _=>rfl⟩⟩):P:=h
theorem qb {P:Prop} (h:P:=by unfold uO at hq;go_enter func31,ntmps31;go_wp2;go_ret;exact⟨rfl,rfl⟩):P:=h
theorem FE {P:Prop} (h:P:=by intro xx bJ;obtain⟨s1,s2,s3,s4⟩:=bJ;go_simp;try (with_reducible rfl)):P:=h
theorem W9 {P:Prop} (h:P:=by
 go_wp2_with fail
 go_meet;exact⟨aP Value.bool (dH ak).symm,rfl⟩):P:=h
theorem W_ {P:Prop} (h:P:=by exact (show prog.wantsStandIn 23=false by as_aux_lemma=>kernel_rfl)):P:=h
theorem afh {P:Prop} (h:P:=by rintro e W' ⟨rfl,b⟩;exact⟨rfl,⟨_,_,hM.below b⟩,aH.of_below b _⟩):P:=h
theorem Cx {P:Prop} (h:P:=by clear h;go_enter func219,ntmps219;go_wp2;go_ret;exact⟨rfl,rfl⟩):P:=h
theorem Cy {P:Prop} (h:P:=by clear h;go_enter func141,ntmps141;go_wp2;go_ret;exact⟨rfl,rfl⟩):P:=h
theorem J6 {P:Prop} (h:P:=by go_enter func162,ntmps162;go_wp2;go_ret;exact⟨rfl,b0 _⟩):P:=h
theorem Xa {P:Prop} (h:P:=by go_enter func153,ntmps153;go_wp2;go_ret;exact⟨rfl,rfl⟩):P:=h
theorem Xb {P:Prop} (h:P:=by go_enter func160,ntmps160;go_wp2;go_ret;exact⟨rfl,rfl⟩):P:=h
theorem Xc {P:Prop} (h:P:=by go_enter func140,ntmps140;go_wp2;go_ret;exact⟨rfl,rfl⟩):P:=h
theorem Xd {P:Prop} (h:P:=by go_enter func106,ntmps106;go_wp2;go_ret;exact⟨rfl,rfl⟩):P:=h
theorem Xe {P:Prop} (h:P:=by go_enter func88,ntmps88;go_wp2;go_ret;exact⟨rfl,rfl⟩):P:=h
theorem Xf {P:Prop} (h:P:=by have⟨q,y,g1,g2,g3⟩:=(h.v.held).resolve_left hh;grind):P:=h
theorem PZ {P:Prop} (h:P:=by
 go_wp2;go_ret
 exact⟨_,rfl,l8 _ _ _ _,aI _ _⟩):P:=h
theorem Xg {P:Prop} (h:P:=by
 rw[hcs]at hb;injection hb with hb;subst hb
 cases hc):P:=h
theorem Xh {P:Prop} (h:P:=by rw[← hW];exact(iM _ _ _ dF).trans (aK w _)):P:=h
theorem Xi {P:Prop} (h:P:=by rintro e w1 ⟨rfl,b1⟩;go_wp2;go_ret;exact⟨rfl,b1⟩):P:=h
theorem FH {P:Prop} (h:P:=by
 go_wp2_with fail
 go_meet;exact⟨⟨_,rfl⟩,rfl⟩):P:=h
theorem J7 {P:Prop} (h:P:=by
 go_wp2_with fail
 go_meet;exact⟨rfl,rfl⟩):P:=h
theorem mX {P:Prop} (h:P:=by
 go_wp2;go_ret
 exact⟨⟨_,rfl⟩,Bw.out⟩):P:=h
theorem xM {P:Prop} (h:P:=by
 go_wp2;go_ret
 exact⟨⟨_,rfl⟩,HB.out⟩):P:=h
theorem FI {P:Prop} (h:P:=by
 go_wp2;go_ret2
 exact⟨rfl,rfl⟩):P:=h
theorem mY {P:Prop} (h:P:=by
 go_wp2;go_ret
 exact⟨rfl,rfl⟩):P:=h
theorem P5 {P:Prop} (h:P:=by
 go_wp2;go_ret
 exact⟨rfl,dY⟩):P:=h
theorem FK {P:Prop} (h:P:=by
 go_wp2;go_ret
 exact⟨rfl,hb⟩):P:=h
end Go.Proofs.YtdhifkbbjlhcaaaGreatDoor
