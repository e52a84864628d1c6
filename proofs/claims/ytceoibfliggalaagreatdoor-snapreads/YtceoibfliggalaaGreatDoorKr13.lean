/-
  TEXTS: RfJ, RldA.
-/
import Derived.Test.YtceoibfliggalaaGreatDoorKr1
import Derived.Test.YtceoibfliggalaaGreatDoorKr5
namespace Go.Proofs.YtceoibfliggalaaGreatDoor
open Go.RowKit Tr
set_option maxRecDepth 20000 in
set_option maxHeartbeats 4000000 in
set_option maxRecDepth 20000 in
theorem row_any {w:World} {ao:Option Addr} {l:List Ac} {c:Nat} (hA:AcsAt w ao l) (hn:l.length*48≤140737488355328) {i:Nat} {a:Ac} (ha:l[i]?=some a):
  Calls Tryz.prog 81 #[.slice ao l.length c,.int .i64 i] w fun e w'=>e=.returned (.int .i64 (rowE l i a))∧Below w.heap.size w w':=by
 have hil:=(List.getElem?_eq_some_iff.1 ha).1
 have hil':(i:Int)<l.length:=by omega
 have HF:∀(W:World),Below w.heap.size w W→Hid (Calls Tryz.prog 127 #[.slice ao l.length c,.string a.nm] W fun e w'=>e=.returned (.int .i64 (findI (findV l a.nm)))∧Below W.heap.size W w'):=fun W hb=>find_any (hA.below hb) hn a.nm
 obtain⟨g,o,hg,hc⟩:=hA
 obtain rfl:=hg (by omega)
 obtain⟨d0,d1,d2,d3,d4⟩:=hc i a ha
 obtain⟨w0,hw0⟩:∃w0,w.alloc (.cells #[.string a.nm,.int .i64 a.pa,.int .i64 a.sh,.bool a.cl,.int .u64 a.us] 52)=w0:=⟨_,rfl⟩
 have b0:Below w.heap.size w w0:=by rw [← hw0];exact(Below.refl _ w).alloc (Nat.le_refl _) _
 have y0:w0.heap[w.heap.size]?=some (.cells #[.string a.nm,.int .i64 a.pa,.int .i64 a.sh,.bool a.cl,.int .u64 a.us] 52 (0,0)):=by rw [← hw0];exact heap_alloc_new w _
 have hlt0:w.heap.size<w0.heap.size:=by rw [← hw0];simp
 have HW0:Hid _:=hw0
 clear hw0 hc hg
 cases hnm:okName a.nm with
 | false=>
  have hv:rowE l i a=60:=by unfold rowE;simp [hnm]
  rw [hv]
  go_enter Tryz.func81,Tryz.ntmps81
  go_wp2_with fail
  rw [HW0.out]
  refine(name_any a.nm w0).mono ?_
  rintro e w1 ⟨rfl,b1⟩
  rw [hnm]
  obtain⟨⟨x0,x1,x2,x3,x4⟩,_⟩:=cells5 ((b1.block _ hlt0).trans y0)
  have b01:=b0.trans (b1.mono b0.size)
  go_wp2
  go_ret
  exact⟨rfl,b01⟩
 | true=>
  by_cases hfd:findV l a.nm=some i
  ·have hfi:findI (findV l a.nm)=i:=by rw [hfd];rfl
   by_cases hpa:a.pa<0
   ·have hv:rowE l i a=62:=by unfold rowE;rw [if_neg (by simp [hnm]),if_neg (by simp [hfd]),if_pos (.inl hpa)]
    rw [hv]
    go_enter Tryz.func81,Tryz.ntmps81
    go_wp2_with fail
    rw [HW0.out]
    refine(name_any a.nm w0).mono ?_
    rintro e w1 ⟨rfl,b1⟩
    rw [hnm]
    obtain⟨⟨x0,x1,x2,x3,x4⟩,_⟩:=cells5 ((b1.block _ hlt0).trans y0)
    have b01:=b0.trans (b1.mono b0.size)
    go_wp2_with fail
    refine(HF w1 b01).out.mono ?_
    rw [hfi]
    rintro e w2 ⟨rfl,b2⟩
    have b02:=b01.trans (b2.mono b01.size)
    obtain⟨⟨y0',y1,y2,y3,y4⟩,_⟩:=cells5 (((b1.trans (b2.mono b1.size)).block _ hlt0).trans y0)
    go_wp2
    go_ret
    exact⟨rfl,b02⟩
   ·by_cases hpb:(l.length:Int)≤a.pa
    ·have hv:rowE l i a=62:=by unfold rowE;rw [if_neg (by simp [hnm]),if_neg (by simp [hfd]),if_pos (.inr hpb)]
     rw [hv]
     go_enter Tryz.func81,Tryz.ntmps81
     go_wp2_with fail
     rw [HW0.out]
     refine(name_any a.nm w0).mono ?_
     rintro e w1 ⟨rfl,b1⟩
     rw [hnm]
     obtain⟨⟨x0,x1,x2,x3,x4⟩,_⟩:=cells5 ((b1.block _ hlt0).trans y0)
     have b01:=b0.trans (b1.mono b0.size)
     go_wp2_with fail
     refine(HF w1 b01).out.mono ?_
     rw [hfi]
     rintro e w2 ⟨rfl,b2⟩
     have b02:=b01.trans (b2.mono b01.size)
     obtain⟨⟨y0',y1,y2,y3,y4⟩,_⟩:=cells5 (((b1.trans (b2.mono b1.size)).block _ hlt0).trans y0)
     go_wp2
     go_ret
     exact⟨rfl,b02⟩
    ·cases hsh:okSh a.sh with
     | false=>
      have hv:rowE l i a=63:=by unfold rowE;rw [if_neg (by simp [hnm]),if_neg (by simp [hfd]),if_neg (by omega),if_pos hsh]
      rw [hv]
      by_cases s1:a.sh<1
      ·skip
       go_enter Tryz.func81,Tryz.ntmps81
       go_wp2_with fail
       rw [HW0.out]
       refine(name_any a.nm w0).mono ?_
       rintro e w1 ⟨rfl,b1⟩
       rw [hnm]
       obtain⟨⟨x0,x1,x2,x3,x4⟩,_⟩:=cells5 ((b1.block _ hlt0).trans y0)
       have b01:=b0.trans (b1.mono b0.size)
       go_wp2_with fail
       refine(HF w1 b01).out.mono ?_
       rw [hfi]
       rintro e w2 ⟨rfl,b2⟩
       have b02:=b01.trans (b2.mono b01.size)
       obtain⟨⟨y0',y1,y2,y3,y4⟩,_⟩:=cells5 (((b1.trans (b2.mono b1.size)).block _ hlt0).trans y0)
       go_wp2
       go_ret
       exact⟨rfl,b02⟩
      ·have s2:4096<a.sh:=by
        simp [okSh]at hsh
        omega
       go_enter Tryz.func81,Tryz.ntmps81
       go_wp2_with fail
       rw [HW0.out]
       refine(name_any a.nm w0).mono ?_
       rintro e w1 ⟨rfl,b1⟩
       rw [hnm]
       obtain⟨⟨x0,x1,x2,x3,x4⟩,_⟩:=cells5 ((b1.block _ hlt0).trans y0)
       have b01:=b0.trans (b1.mono b0.size)
       go_wp2_with fail
       refine(HF w1 b01).out.mono ?_
       rw [hfi]
       rintro e w2 ⟨rfl,b2⟩
       have b02:=b01.trans (b2.mono b01.size)
       obtain⟨⟨y0',y1,y2,y3,y4⟩,_⟩:=cells5 (((b1.trans (b2.mono b1.size)).block _ hlt0).trans y0)
       go_wp2
       go_ret
       exact⟨rfl,b02⟩
     | true=>
      have hv:rowE l i a=0:=by unfold rowE;rw [if_neg (by simp [hnm]),if_neg (by simp [hfd]),if_neg (by omega),if_neg (by simp [hsh])]
      rw [hv]
      obtain⟨s1,s2⟩:1≤a.sh∧a.sh≤4096:=by simpa [okSh]using hsh
      go_enter Tryz.func81,Tryz.ntmps81
      go_wp2_with fail
      rw [HW0.out]
      refine(name_any a.nm w0).mono ?_
      rintro e w1 ⟨rfl,b1⟩
      rw [hnm]
      obtain⟨⟨x0,x1,x2,x3,x4⟩,_⟩:=cells5 ((b1.block _ hlt0).trans y0)
      have b01:=b0.trans (b1.mono b0.size)
      go_wp2_with fail
      refine(HF w1 b01).out.mono ?_
      rw [hfi]
      rintro e w2 ⟨rfl,b2⟩
      have b02:=b01.trans (b2.mono b01.size)
      obtain⟨⟨y0',y1,y2,y3,y4⟩,_⟩:=cells5 (((b1.trans (b2.mono b1.size)).block _ hlt0).trans y0)
      go_wp2
      go_ret
      exact⟨rfl,b02⟩
  ·have hv:rowE l i a=61:=by unfold rowE;rw [if_neg (by simp [hnm]),if_pos hfd]
   have hfi:¬findI (findV l a.nm)=(i:Int):=fun h=>by
    cases hf:findV l a.nm with
    | none=>rw [hf]at h;simp [findI]at h
    | some k=>
     rw [hf]at h hfd
     simp only [findI]at h
     exact hfd (by congr 1;omega)
   rw [hv]
   go_enter Tryz.func81,Tryz.ntmps81
   go_wp2_with fail
   rw [HW0.out]
   refine(name_any a.nm w0).mono ?_
   rintro e w1 ⟨rfl,b1⟩
   rw [hnm]
   obtain⟨⟨x0,x1,x2,x3,x4⟩,_⟩:=cells5 ((b1.block _ hlt0).trans y0)
   have b01:=b0.trans (b1.mono b0.size)
   go_wp2_with fail
   refine(HF w1 b01).out.mono ?_
   rintro e w2 ⟨rfl,b2⟩
   have b02:=b01.trans (b2.mono b01.size)
   obtain⟨⟨y0',y1,y2,y3,y4⟩,_⟩:=cells5 (((b1.trans (b2.mono b1.size)).block _ hlt0).trans y0)
   obtain⟨z,hz⟩:∃z,findI (findV l a.nm)=z:=⟨_,rfl⟩
   rw [hz]at hfi ⊢
   go_wp2
   go_ret
   exact⟨rfl,b02⟩
end Go.Proofs.YtceoibfliggalaaGreatDoor
namespace Go.Proofs.YtceoibfliggalaaGreatDoor
open Go.RowKit Tr
def RLoadP (w:World) (l:List Ac) (e:Ending) (w':World):Prop:=
 (loadE l=0→∃d v,e=.returned (.tuple #[.pointer (some ⟨d,0,none⟩),.int .i64 0])∧RefO w.heap.size w' d v (l.map plainAc))∧(loadE l≠0→e=.returned (.tuple #[.pointer none,.int .i64 (loadE l)]))∧Below w.heap.size w w'
theorem RLoadP.no {w w':World} {l:List Ac} {k:Int} (h:loadE l=k) (hk:k≠0) (b:Below w.heap.size w w'):RLoadP w l (.returned (.tuple #[.pointer none,.int .i64 k])) w':=
 ⟨fun e=>absurd (h.symm.trans e) hk,fun _=>by rw [h],b⟩
theorem step_appB {P:Program} {ops:Array Oper} {o:Oper} {a:Act} {w:World} {K:Act→World→Prop} {Q:Exit→Act→World→Prop} {E:Prop}
  (hgd:o.guard=none) (s x:Operand) (t:TypeId) (ho:o.op=.call {callee:=.builtin .append,args:= #[s,x],argTypes:= #[t,t]})
  (B:Nat) (e:TypeId) (i:TypeInfo) (z:Value) (size bytes:Nat) (h1:P.underlying t=some (.slice e)) (h2:P.info? e=some i) (h3:i.zero=some z) (h4:i.size=size) (h5:i.bytes=bytes) (h6:z.cells.size=size) (h7:0<size)
  (v:Value) (n:Nat) (xs:List Value) (hs:a.eval s=v) (hown:w.ownsRow B e size v n xs)
  (ad:Addr) (m c:Nat) (news:List Value) (hx:a.eval x=.slice (some ad) m c) (hl:news.length=m*size) (hnews:∀j u,news[j]?=some u→w.cell? (ad.add j)=some u) (hone:∀u∈news,u.oneCell'=true)
  (b1:n+m≤maxLen) (b2:(n+m)*bytes≤140737488355328) (hB:B≤w.heap.size)
  (hK:∀v' w',w'.ownsRow B e size v' (n+m) (xs++news)→w.grownBy w' v.ownBlock→(v'.ownBlock=v.ownBlock∨v'.ownBlock=some w.heap.size)→K (a.put o.dst v') w'):
  if Region.wanted o (yielded ops a.tmps)=true then Oper.wp P o a w K Q else E:=by
 have hw:Region.wanted o (yielded ops a.tmps)=true:=by simp [Region.wanted,hgd]
 rw [if_pos hw]
 obtain⟨v',w',hrun,r1,r2,_,r4⟩:=run_append_own_at (P:=P) w B t o.type e i z size bytes h1 h2 h3 h4 h5 h6 h7 v n xs hown ad m c news hl hnews hone b1 b2 hB
 unfold Oper.wp
 simp [execOp,ho,resolve,invoke,builtin,hs,hx,hrun,Result.andThen]
 exact hK _ _ r1 r2 r4
theorem RefO.drew {B:Nat} {W:World} {d:Nat} {v:Value} {l:List Ac} (h:RefO B W d v l):RefO B W.drew d v l:=⟨h.blk,h.row,h.lo⟩
set_option maxRecDepth 20000 in
theorem refO_nil {B:Nat} {w:World} (hB:B≤w.heap.size):RefO B (w.alloc (.cells #[.slice none 0 0] 114)) w.heap.size (.slice none 0 0) []:=
 ⟨heap_alloc_new w _,World.ownsRow_nil _ _ 52 5,hB⟩
theorem RefO.chg_lo {B:Nat} {W W' w:World} {d:Nat} {v:Value} {l:List Ac} (h:RefO B W d v l) (c:Chg (RefK d v) W W') (hb:Below B w W) (hB:B≤W.heap.size):Below B w W':=
 c.below hb hB (fun i hi=>by
  rcases hi with rfl | hi
  ·exact h.lo
  ·exact (row_block h.row hi).1)
set_option maxRecDepth 20000 in
theorem root_list:rootName.toList= [114,111,111,116]:=by rw [Lib.toList_data];rfl
set_option maxHeartbeats 8000000 in
set_option maxRecDepth 20000 in
theorem rload_any {w:World} {ao:Option Addr} {l:List Ac} {c:Nat} (hA:AcsAt w ao l) (hn:l.length*48≤281474976710656):
  Calls Tryz.prog 36 #[.slice ao l.length c] w (RLoadP w l):=by
 cases hl0:l[0]? with
 | none=>
  have hl:l= []:=by
   cases l with
   | nil=>rfl
   | cons a l=>simp at hl0
  subst hl
  simp only [List.length_nil]
  have HE:Hid (loadE []=66):=show loadE []=66 from rfl
  clear hA hl0
  go_enter Tryz.func36,Tryz.ntmps36
  go_wp2
  go_ret2
  exact RLoadP.no HE.out (by decide) (Below.refl _ _)
 | some a0=>
  have HA:Hid (AcsAt w ao l):=hA
  obtain⟨g,o,hg,hcl⟩:=hA
  have hpos:0<l.length:=(List.getElem?_eq_some_iff.1 hl0).1
  obtain rfl:=hg hpos
  obtain⟨Q,hQ⟩:∃Q,l.length=Q:=⟨_,rfl⟩
  have HQ:Hid (l.length=Q):=hQ
  rw [hQ]at hpos hn ⊢
  have hz:((Q:Int)==0)=false:=by simp;omega
  obtain⟨d0,d1,d2,d3,d4⟩:=hcl 0 a0 hl0
  simp only [Nat.zero_mul,Nat.add_zero]at d0 d1 d2 d3 d4
  cases hr:isRoot a0 with
  | false=>
   have HE:Hid (loadE l=66):=show loadE l=66 by unfold loadE;rw [hl0];simp [hr]
   obtain⟨nm,pa,sh,cl,us⟩:=a0
   simp only at d0 d1 d2 d3 d4
   unfold isRoot at hr
   simp only at hr
   clear hcl hg hl0 hQ HA
   by_cases h1:nm=rootName
   ·have f1:nm.toList= [114,111,111,116]:=by rw [h1];exact root_list
    rw [decide_eq_true h1]at hr
    clear h1
    by_cases h2:pa= -1
    ·rw [decide_eq_true h2]at hr
     subst h2
     by_cases h3:sh=1
     ·rw [decide_eq_true h3]at hr
      subst h3
      obtain rfl:cl=true:=by simpa using hr
      clear hr
      go_enter Tryz.func36,Tryz.ntmps36
      go_wp2
      go_ret2
      exact RLoadP.no HE.out (by decide) (Below.refl _ _)
     ·have f3:(sh==1)=false:=by simp [h3]
      clear hr f3
      go_enter Tryz.func36,Tryz.ntmps36
      go_wp2
      go_ret2
      exact RLoadP.no HE.out (by decide) (Below.refl _ _)
    ·have f2:(pa== -1)=false:=by simp [h2]
     clear hr f2
     go_enter Tryz.func36,Tryz.ntmps36
     go_wp2
     go_ret2
     exact RLoadP.no HE.out (by decide) (Below.refl _ _)
   ·have f1:¬nm.toList= [114,111,111,116]:=fun e=>h1 (by
     have:=ba_ne h1
     rw [e,root_list]at this
     simp at this)
    clear hr h1
    go_enter Tryz.func36,Tryz.ntmps36
    go_wp2
    go_ret2
    exact RLoadP.no HE.out (by decide) (Below.refl _ _)
  | true=>
   have hroot:=hr
   simp [isRoot]at hr
   obtain⟨⟨⟨r1,r2⟩,r3⟩,r4⟩:=hr
   have f1:a0.nm.toList= [114,111,111,116]:=by rw [r1];exact root_list
   rw [r2]at d1
   rw [r3]at d2
   rw [r4]at d3
   clear r1 r2 r3 r4
   by_cases h64:64<Q
   ·have h64':(64:Int)<Q:=by omega
    have HE:Hid (loadE l=65):=show loadE l=65 by unfold loadE;rw [hl0];simp [hroot,HQ.out,h64]
    clear hcl hg hl0 hroot h64 hQ HA
    go_enter Tryz.func36,Tryz.ntmps36
    go_wp2
    go_ret2
    exact RLoadP.no HE.out (by decide) (Below.refl _ _)
   ·have h64':¬(64:Int)<Q:=by omega
    have hQ64:Q≤64:=by omega
    have hE:loadE l=if rowsE l Q 1≠0 then rowsE l Q 1 else deepE l Q 1:=by unfold loadE;rw [hl0,HQ.out];simp [hroot,h64]
    have HE:Hid _:=hE
    have HCL:Hid _:=hcl
    obtain⟨i0,hi0,hz0,hz1,hz2⟩:=info_parts Tryz.inf52
    clear hE hcl hg hQ h64 hl0 hroot
    go_enter Tryz.func36,Tryz.ntmps36
    go_wp2_with fail
    go_loopg [4] (Q - 1) (fun gk p wr=>∃j:Nat,0<j∧j+gk=Q∧p=.int .i64 j∧Below w.heap.size w wr∧rowsE l Q 1=rowsE l (gk+1) j∧∀i a,0<i→i<j→l[i]?=some a→rowE l i a=0)
    case atStart=>exact⟨1,by omega,by omega,rfl,Below.refl _ _,by rw [show Q - 1+1=Q by omega],fun i a h1 h2=>by omega⟩
    case round=>
     obtain⟨j,hj0,hj,rfl,hb,hro,hok⟩:=hrel
     by_cases hlt:j<Q
     ·have hlt':(j:Int)<Q:=by omega
      obtain⟨a,ha⟩:∃a,l[j]?=some a:=⟨_,List.getElem?_eq_getElem (by rw [HQ.out];omega)⟩
      have hrw:=row_any (c:=c) (HA.out.below hb) (by rw [HQ.out];omega) ha
      rw [HQ.out]at hrw
      rw [rows_at ha]at hro
      by_cases he:rowE l j a=0
      ·rw [he]at hrw
       rw [if_pos he]at hro
       have HRO:Hid _:=hro
       have HO2:Hid (∀i a,0<i→i<j+1→l[i]?=some a→rowE l i a=0):=fun i b h1 h2 hb=>by
        by_cases e:i=j
        ·subst e
         rw [ha]at hb
         cases hb
         exact he
        ·exact hok i b h1 (by omega) hb
       have HB:Hid _:=hb
       clear hok hb hro he ha
       go_wp2_with fail
       refine hrw.mono ?_
       rintro e wx ⟨rfl,bx⟩
       have HBx:Hid _:=HB.out.trans (bx.mono HB.out.size)
       clear hrw bx
       go_wp2
       go_roundg (Q - (j+1))
       case measure=>omega
       case rel=>exact⟨j+1,by omega,by omega,rfl,HBx.out,by rw [HRO.out,show Q - (j+1)+1=gk by omega],HO2.out⟩
      ·have HEE:Hid (loadE l=rowE l j a):=show loadE l=rowE l j a by
        rw [HE.out,hro]
        simp [he]
       obtain⟨er,her⟩:∃er,rowE l j a=er:=⟨_,rfl⟩
       rw [her]at hrw he HEE
       have he':(er==0)=false:=by simp [he]
       have HB:Hid _:=hb
       clear hok hb hro her ha HE
       go_wp2_with fail
       refine hrw.mono ?_
       rintro e wx ⟨rfl,bx⟩
       have HBx:Hid _:=HB.out.trans (bx.mono HB.out.size)
       clear hrw bx
       go_wp2
       go_ret2
       exact RLoadP.no HEE.out he HBx.out
     ·obtain rfl:j=Q:=by omega
      have hr0:rowsE l j 1=0:=by
       rw [hro]
       exact rows_end (by rw [HQ.out];exact Nat.le_refl _) _
      have hpao:PaOk l:=fun k a ha hk=>by
       have:=rowE_no ha (hok k a hk (by have:=(List.getElem?_eq_some_iff.1 ha).1;rw [HQ.out]at this;omega) ha)
       exact⟨this.2.2.1,this.2.2.2⟩
      have HPA:Hid (PaOk l):=hpao
      have HEE:Hid (loadE l=deepE l j 1):=show loadE l=deepE l j 1 by rw [HE.out];simp [hr0]
      have HB:Hid _:=hb
      clear hro hok hr0 HE hpao hb
      go_wp2_with fail
      go_loopg [6] (j - 1) (fun gk p wr=>∃n:Nat,0<n∧n+gk=j∧p=.int .i64 n∧Below w.heap.size w wr∧deepE l j 1=deepE l (gk+1) n)
      case atStart=>exact⟨1,by omega,by omega,rfl,HB.out,by rw [show j - 1+1=j by omega]⟩
      case round=>
       obtain⟨n,hn0,hnj,rfl,hb,hro⟩:=hrel
       by_cases hlt:n<j
       ·have hlt':(n:Int)<j:=by omega
        have hdp:=depth_any (c:=c) (HA.out.below hb) (by rw [HQ.out];omega) HPA.out (n:=n) (by rw [HQ.out];exact hlt)
        rw [HQ.out]at hdp
        rw [deep_at (by rw [HQ.out];exact hlt)]at hro
        cases hdv:depthV l n with
        | none=>
         rw [hdv]at hdp hro
         simp only [findI]at hdp
         have HE2:Hid (loadE l=67):=HEE.out.trans hro
         have HBn:Hid _:=hb
         clear hro hb HEE hdv
         go_wp2_with fail
         refine hdp.mono ?_
         rintro e wx ⟨rfl,bx⟩
         have HBx:Hid _:=HBn.out.trans (bx.mono HBn.out.size)
         clear hdp bx
         go_wp2
         go_ret2
         exact RLoadP.no HE2.out (by decide) HBx.out
        | some dd=>
         rw [hdv]at hdp hro
         simp only [findI]at hdp
         have hd0:¬(dd:Int)<0:=by omega
         by_cases h4:4<dd
         ·have h4':(4:Int)<dd:=by omega
          have HE2:Hid (loadE l=64):=HEE.out.trans (by rw [hro];simp [h4])
          have HBn:Hid _:=hb
          clear hro hb HEE hdv h4
          go_wp2_with fail
          refine hdp.mono ?_
          rintro e wx ⟨rfl,bx⟩
          have HBx:Hid _:=HBn.out.trans (bx.mono HBn.out.size)
          clear hdp bx
          go_wp2
          go_ret2
          exact RLoadP.no HE2.out (by decide) HBx.out
         ·have h4':¬(4:Int)<dd:=by omega
          have HRO:Hid (deepE l j 1=deepE l gk (n+1)):=show deepE l j 1=deepE l gk (n+1) by rw [hro];simp [h4]
          have HBn:Hid _:=hb
          clear hro hb hdv h4
          go_wp2_with fail
          refine hdp.mono ?_
          rintro e wx ⟨rfl,bx⟩
          have HBx:Hid _:=HBn.out.trans (bx.mono HBn.out.size)
          clear hdp bx
          go_wp2
          go_roundg (j - (n+1))
          case measure=>omega
          case rel=>exact⟨n+1,by omega,by omega,rfl,HBx.out,by rw [HRO.out,show j - (n+1)+1=gk by omega]⟩
       ·obtain rfl:n=j:=by omega
        have HL0:Hid (loadE l=0):=HEE.out.trans (by rw [hro];exact deep_end (by rw [HQ.out];exact Nat.le_refl _) _)
        obtain⟨wn,hwn⟩:∃wn,wr.alloc (.cells #[.slice none 0 0] 114)=wn:=⟨_,rfl⟩
        have RN:Hid (RefO w.heap.size wn wr.heap.size (.slice none 0 0) []):=by rw [← hwn];exact refO_nil hb.size
        have BN:Hid (Below w.heap.size w wn):=by rw [← hwn];exact hb.alloc hb.size _
        have HWN:Hid _:=hwn
        obtain⟨d,hd⟩:∃d,wr.heap.size=d:=⟨_,rfl⟩
        have HD:Hid (wr.heap.size=d):=hd
        rw [hd]at RN
        clear hro HEE hb hwn HB
        go_upto_region 20 with fail
        rw [HWN.out]
        clear hd
        go_wp2_with fail
        go_loopg [73] n (fun gk p wv=>∃i v,i+gk=n∧p=.int .i64 (i:Int)∧RefO w.heap.size wv d v ((l.take i).map plainAc)∧Below w.heap.size w wv)
        case atStart=>exact⟨0,_,by omega,rfl,RN.out,BN.out⟩
        case round=>
         obtain⟨i,v,hi,rfl,ro,hb⟩:=hrel
         by_cases hlt:i<n
         ·have hlt':(i:Int)<n:=by omega
          obtain⟨a,ha⟩:∃a,l[i]?=some a:=⟨_,List.getElem?_eq_getElem (by rw [HQ.out];omega)⟩
          obtain⟨x0,x1,x2,x3,x4⟩:AcAt wr g (o+i*5) a:=by
           have hac:=HCL.out i a ha
           have k:∀ {x:Addr} {u:Value},w.cell? x=some u→wr.cell? x=some u:=fun hx=>(hb.cell (World.block_lt_of_cell? w _ hx)).trans hx
           exact⟨k hac.nm,k hac.pa,k hac.sh,k hac.cl,k hac.us⟩
          obtain⟨m,hm⟩:∃m,(l.take i).map plainAc=m:=⟨_,rfl⟩
          have hml:m.length=i:=by rw [← hm,List.length_map,List.length_take,HQ.out];omega
          rw [hm]at ro
          have hm64:m.length<64:=by omega
          have HTK:Hid ((l.take (i+1)).map plainAc=m++ [plainAc a]):=show (l.take (i+1)).map plainAc=m++ [plainAc a] by rw [take_plain ha,hm]
          obtain⟨wb,hwb⟩:∃wb,wr.alloc (.cells #[.string a.nm,.int .i64 a.pa,.int .i64 a.sh,.bool a.cl,.int .u64 0] 52)=wb:=⟨_,rfl⟩
          have bb:Below wr.heap.size wr wb:=by rw [← hwb];exact(Below.refl _ wr).alloc (Nat.le_refl _) _
          have y:wb.heap[wr.heap.size]?=some (.cells #[.string a.nm,.int .i64 a.pa,.int .i64 a.sh,.bool a.cl,.int .u64 0] 52 (0,0)):=by rw [← hwb];exact heap_alloc_new wr _
          have rb:=ro.below bb
          have hbb:=hb.trans (bb.mono hb.size)
          obtain⟨aov,cv,rfl⟩:=sl_shape ro.row
          have c0:=rb.cell
          have c0':(wb.alloc (.cells #[.string a.nm,.int .i64 a.pa,.int .i64 a.sh,.bool a.cl,.int .u64 0] 52)).cell? ⟨d,0,none⟩=some (.slice aov m.length cv):=cellB ((Below.refl _ wb).alloc (Nat.le_refl _) _) c0
          have hrow:=rb.row
          have hBs:w.heap.size≤wb.heap.size:=hbb.size
          obtain⟨⟨z0,z1,z2,z3,z4⟩,_⟩:=cells5 y
          have RBD:Hid (RefO w.heap.size wb.drew d (.slice aov m.length cv) m):=rb.drew
          have BBD:Hid (Below w.heap.size w wb.drew):=⟨hbb.os,hbb.tape,hbb.output,hbb.size,hbb.block⟩
          have HWB:Hid _:=hwb
          have HML:Hid _:=hml
          clear hwb bb hb hbb ro rb hm hml y ha RN BN HWN
          go_upto_region 24 with fail
          rw [HWB.out]
          go_region_law (refine step_appB rfl (.tmp 82) (.tmp 84) 24 rfl w.heap.size 52 i0 _ 5 48 Tryz.underlying24 hi0 hz0 hz1 hz2 rfl (by decide) (.slice aov m.length cv) m.length (flatA m) (by simp [Act.eval]) (hrow.alloc _) ⟨wb.heap.size,0,none⟩ 1 1 [.string a.nm,.int .i64 a.pa,.int .i64 a.sh,.bool a.cl,.int .u64 0] (by simp [Act.eval]) rfl (new_cells wb.drew _ 52) (fun u hu=>by simp at hu;rcases hu with rfl | rfl | rfl | rfl | rfl<;>rfl) (Nat.le_trans (m:=35184372088832) (by omega) (by decide)) (by omega) (by simp;omega) ?_;intro v' w1 r1 g1 r4;obtain⟨ao2,cc2,rfl⟩:=sl_shape r1;obtain⟨R1,C1,e0,e1⟩:=RefO.app RBD.out (a:=plainAc a) r1 g1)
          all_goals (go_wp2;go_roundg (n - (i+1)))
          all_goals first | (show _<_;omega) | exact⟨i+1,_,by omega,rfl,by rw [HTK.out];exact R1,RefO.chg_lo RBD.out C1 BBD.out hBs⟩ | omega
         ·obtain rfl:i=n:=by omega
          rw [List.take_of_length_le (by rw [HQ.out];exact Nat.le_refl _)]at ro
          have RO:Hid (RefO w.heap.size wr d v (l.map plainAc)):=ro
          have HBf:Hid _:=hb
          clear ro hb
          go_wp2
          go_ret2
          exact⟨fun _=>⟨d,v,rfl,RO.out⟩,fun h=>absurd HL0.out h,HBf.out⟩
end Go.Proofs.YtceoibfliggalaaGreatDoor
