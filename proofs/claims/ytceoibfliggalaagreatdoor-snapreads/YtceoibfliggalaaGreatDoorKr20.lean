/-
  TEXTS: HeS, SqE.
-/
import Derived.Test.YtceoibfliggalaaGreatDoorKr6
import Derived.Test.YtceoibfliggalaaGreatDoorKr14
import Derived.SizedLaws
import Derived.Carry
import Derived.ProofKit
import Derived.Lib.SmallJoins
import Derived.Deep.Slices
import Derived.Test.YtceoibfliggalaaGreatDoorKr19
namespace Go.Proofs.YtceoibfliggalaaGreatDoor
open Go.ChangeShapes Go.WideShapes Go.ChangeAt Go.RowKit Go.Joins Wd Ld Cg Tr Lg
theorem eight {α:Type} {l:List α} (h:l.length=8):∃a b c d e f g i,l= [a,b,c,d,e,f,g,i]:=by
 match l,h with
 | [a,b,c,d,e,f,g,i],_=>exact⟨a,b,c,d,e,f,g,i,rfl⟩
theorem weights_all {H:Type} {P:Program} {e:TypeId}:∀ {l:List (DataW H)} {d:DataW H},d∈l→∀n∈d.weights P e,n∈DataW.weightsAll P e l
 | [],d,h,n,hn=>by cases h
 | x::l,d,h,n,hn=>by
  simp only [DataW.weightsAll,List.mem_append]
  rcases List.mem_cons.1 h with rfl | h
  ·exact .inl hn
  ·exact .inr (weights_all h n hn)
theorem recs_inW {H:Type} {α:Type} {enc:TypeId×Value→H} {W:World} {fuel:Nat} {ao:Option Addr} {L sc:Nat} {x:DataW H×List MemPlace} {t e by_ z:Nat} (C:α→List Value) (d:α) (ok:α→Prop) (hz:0<z) (hC:∀f,(C f).length=z)
  (hu:Tryz.prog.underlying t=some (.slice e)) (hce:Tryz.prog.cellsOf e=z) (hby:Tryz.prog.bytesOf e=by_)
  (one:∀ {fuel:Nat} {cs:List Value} {x:DataW H×List MemPlace},DataW.trod enc Tryz.prog W 0 (fun _=>true) true fuel e cs=some x→(∀n∈x.1.weights Tryz.prog e,n≤reachBytes)→∃f:α,cs=C f∧ok f)
  (h:DataW.trod enc Tryz.prog W 0 (fun _=>true) true fuel t [.slice ao L sc]=some x) (hw:∀n∈x.1.weights Tryz.prog t,n≤reachBytes):
  L*by_≤140737488351232∧∃l:List α,l.length=L∧(∃g o,(0<l.length→ao=some ⟨g,o,none⟩)∧∀k r,l[k]?=some r→∀i v,(C r)[i]?=some v→W.cell? ⟨g,o+k*z+i,none⟩=some v)∧(∀r∈l,ok r)∧(ao=none→l.length=0∧sc=0)∧L≤sc:=by
 rcases Go.Deep.open_slice hu h with⟨hc,_⟩ | ⟨a,len,cap,m,n,D,Pl,hc,_,hl,_,hm,hx,hel⟩
 ·simp at hc
  obtain⟨rfl,rfl,rfl⟩:=hc
  exact⟨by omega,[],rfl,⟨0,0,fun h=>(by simp at h),fun k r hk=>by simp at hk⟩,fun r hr=>(by cases hr),fun _=>⟨rfl,rfl⟩,Nat.le_refl _⟩
 ·simp at hc
  obtain⟨rfl,rfl,rfl⟩:=hc
  rw [hce]at hel
  simp at hm
  subst hm
  have hb:=hw ((((List.range L).map D).length+((List.range (m - L)).map fun j=>D (L+j)).length)*Tryz.prog.bytesOf e) (by rw [hx];simp [DataW.weights,hu])
  rw [hby]at hb
  simp only [reachBytes,List.length_map,List.length_range]at hb
  have hel':∀k,∃f:α,k<L→W.cells? 0 (a.add (k*z)) z=some (C f)∧ok f:=fun k=>by
   by_cases hk:k<L
   ·obtain ⟨cs,h1,h2⟩:=hel k (by omega)
    obtain⟨f,rfl,hf⟩:=one h2 (fun n hn=>hw n (by rw [hx];simp only [DataW.weights,hu];exact List.mem_cons_of_mem _ (List.mem_append_left _ (weights_all (List.mem_map_of_mem (List.mem_range.2 hk)) n hn))))
    exact⟨f,fun _=>⟨h1,hf⟩⟩
   ·exact ⟨d,fun h=>absurd h hk⟩
  obtain⟨f,hf⟩:=Classical.axiomOfChoice hel'
  have hget:∀k r,((List.range L).map f)[k]?=some r→k<L∧r=f k:=fun k r hr=>by
   obtain⟨hk,e⟩:=List.getElem?_eq_some_iff.1 hr
   simp at hk e
   exact⟨hk,e.symm⟩
  have hLm:L*by_≤(L+(m - L))*by_:=Nat.mul_le_mul_right _ (Nat.le_add_right _ _)
  refine⟨by omega,(List.range L).map f,by simp,?_,fun r hr=>?_,(fun h=>by cases h),hl⟩
  ·by_cases hL:0<L
   ·obtain ⟨g,o,s⟩:=a
    have hcell:∀k,k<L→∀i v,(C (f k))[i]?=some v→W.cell? ((⟨g,o,s⟩:Addr).add (k*z+i))=some v:=fun k hk i v hv=>by
     have hi:i<z:=by rw [← hC (f k)];exact(List.getElem?_eq_some_iff.1 hv).1
     obtain⟨_,hlen,hcell⟩:=World.cells?_some (hf k hk).1
     have h0:=hcell i (by omega)
     rw [Go.Deep.add_add]at h0
     rw [h0]
     exact hv
    have hs:s=none:=by
     obtain⟨v,hv⟩:∃v,(C (f 0))[0]?=some v:=⟨_,List.getElem?_eq_getElem (by rw [hC];omega)⟩
     have h0:=hcell 0 hL 0 v hv
     have e:(⟨g,o,s⟩:Addr).add (0*z+0)=⟨g,o,s⟩:=by unfold Addr.add;simp
     rw [e]at h0
     exact no_sub h0
    subst hs
    refine⟨g,o,fun _=>rfl,fun k r hk i v hv=>?_⟩
    obtain⟨hkL,rfl⟩:=hget k r hk
    have:=hcell k hkL i v hv
    rwa [Addr.add_lit,←Nat.add_assoc]at this
   ·exact ⟨0,0,fun h=>by simp at h;omega,fun k r hk=>absurd (hget k r hk).1 (by omega)⟩
  ·obtain ⟨k,hk⟩:=List.getElem?_of_mem hr
   obtain⟨hkL,rfl⟩:=hget k r hk
   exact(hf k hkL).2
end Go.Proofs.YtceoibfliggalaaGreatDoor
namespace Go.Proofs.YtceoibfliggalaaGreatDoor
open Go.ChangeShapes Go.WideShapes Go.ChangeAt Go.RowKit Go.Joins Wd Ld Cg Tr Lg
theorem Tryz.cellsU8:Tryz.prog.cellsOf 5=1:=by kernel_rfl
theorem Tryz.bytesU8:Tryz.prog.bytesOf 5=1:=by kernel_rfl
theorem byte_in {H:Type} {enc:TypeId×Value→H} {W:World} {fuel:Nat} {cs:List Value} {x:DataW H×List MemPlace} (h:DataW.trod enc Tryz.prog W 0 (fun _=>true) true fuel 5 cs=some x):∃b:UInt8,cs= [.int .u8 (b.toNat:Int)]:=by
 obtain⟨z,e,_,w⟩:=DataW.trod_int Tryz.underlying5 h
 have hr:0≤z∧z≤255:=by
  simp [Lit.wf,IntKind.min,IntKind.max,IntKind.signed,IntKind.bits]at w
  exact⟨by omega,by omega⟩
 refine⟨UInt8.ofNat z.toNat,?_⟩
 rw [e,UInt8.toNat_ofNat',Nat.mod_eq_of_lt (by omega),show ((z.toNat:Nat):Int)=z by omega]
theorem bytes_in {H:Type} {enc:TypeId×Value→H} {W:World} {fuel:Nat} {ao:Option Addr} {L sc:Nat} {x:DataW H×List MemPlace}
  (h:DataW.trod enc Tryz.prog W 0 (fun _=>true) true fuel 35 [.slice ao L sc]=some x) (hw:∀n∈x.1.weights Tryz.prog 35,n≤reachBytes):
  L≤140737488351232∧∃r:List UInt8,r.length=L∧BytAt W ao r∧(ao=none→sc=0)∧L≤sc:=by
 obtain⟨h1,l,h2,⟨g,o,h3,h4⟩,_,h6,h7⟩:=recs_inW (fun b:UInt8=> [Value.int .u8 (b.toNat:Int)]) 0 (fun _=>True) (by decide) (fun _=>rfl) Tryz.underlying35 Tryz.cellsU8 Tryz.bytesU8 (fun h _=>by obtain⟨b,hb⟩:=byte_in h;exact⟨b,hb,trivial⟩) h hw
 exact⟨by omega,l,h2,⟨g,o,h3,fun k b hb=>by have:=h4 k b hb 0 _ rfl;rwa [Nat.mul_one,Nat.add_zero]at this⟩,fun e=>(h6 e).2,h7⟩
end Go.Proofs.YtceoibfliggalaaGreatDoor
