/-
  TEXTS: SnS.
-/
import Derived.Test.YtceoibfliggalaaGreatDoorKw30
import Derived.Test.YtceoibfliggalaaGreatDoorKw37
namespace Go.Proofs.YtceoibfliggalaaGreatDoor
open Go.RowKit Wd Tr Cg Ld Lg
theorem acs_many:∀la:List Ac,la.length*40≤(la.flatMap acB).length
 | []=>Nat.le_refl _
 | a::la=>by
  have:=acs_many la
  rw [List.flatMap_cons,List.length_append,ac_len,List.length_cons]
  omega
theorem acs_nm:∀ {la:List Ac} {a:Ac},a∈la→a.nm.size≤(la.flatMap acB).length
 | b::la,a,h=>by
  rw [List.flatMap_cons,List.length_append,ac_len]
  rcases List.mem_cons.1 h with rfl | h
  ·omega
  ·have:=acs_nm h
   omega
theorem jbs_many:∀qs:List Pj,qs.length*64+setsN qs*8≤((qs.map Pj.v).flatMap jbB).length
 | []=>Nat.le_refl _
 | q::qs=>by
  have:=jbs_many qs
  rw [List.map_cons,List.flatMap_cons,List.length_append,jb_len,List.length_cons]
  show (qs.length+1)*64+(q.v.set.length+setsN qs)*8≤_
  omega
theorem acs_us:∀(k:Nat) (s:RS),∀a∈(acsF k s).1,Word a.us
 | 0,_,_,h=>absurd h List.not_mem_nil
 | k+1,s,a,h=>by
  rcases List.mem_cons.1 (show a∈(acF s).1::(acsF k (acF s).2).1 from h)with rfl | h
  ·show Word ((numsF 4 (acS s).2).1.getD 3 0 % 18446744073709551616)
   unfold Word
   omega
  ·exact acs_us k _ a h
theorem acs_at {W:World} {g:Nat} {la:List Ac} (h:W.heap[g]?=some (.cells (flatA la).toArray 52 (0,0))):AcsAt W (some ⟨g,0,none⟩) la:=by
 refine⟨g,0,fun _=>rfl,fun k a ha=>?_⟩
 obtain⟨e0,e1,e2,e3,e4⟩:=flatA_at la k a ha
 have hc:=fun j u (hu:(flatA la)[j]?=some u)=>(show W.cell? ⟨g,0+j,none⟩=some u by rw [Nat.zero_add];exact cells_at h (by simpa using hu))
 exact⟨hc _ _ e0,hc _ _ e1,hc _ _ e2,hc _ _ e3,hc _ _ e4⟩
theorem jbs_at {W:World} {g:Nat} {qs:List Pj} (h:W.heap[g]?=some (.cells (flatJ qs).toArray 55 (0,0))) (hl:qs.length≤140737488355328):JobsAt W (some ⟨g,0,none⟩) (qs.map Pj.jb):=
 jobs_own (B:=0) (cap:=qs.length) ⟨flatJ_len qs,.inr ⟨g,qs.length,_,rfl,Nat.zero_le _,h,Nat.le_refl _,by unfold maxLen;omega,by simp [flatJ_len],by rw [← flatJ_len];simp⟩⟩
theorem ints_at {W:World} {g:Nat} {l:List Int} (h:W.heap[g]?=some (.cells (l.map (Value.int .i64)).toArray 3 (0,0))):IntsAt W (some ⟨g,0,none⟩) l:=by
 refine⟨g,0,fun _=>rfl,fun k n hn=>?_⟩
 rw [Nat.zero_add]
 exact cells_at h (by simp [hn])
theorem st_parts (s:Sv):(stB s).length=105+(s.la.flatMap acB).length+(s.js.flatMap jbB).length:=by
 rw [st_len]
 unfold szA szJ
 rw [List.take_length,List.take_length]
theorem st_read {W:World} {lo gA gJ:Nat} {c:Cf} {now hd:Int} {la:List Ac} {qs:List Pj} (h:RdS W lo gA gJ la qs) (hl:(stB ⟨c,now,la,qs.map Pj.v,hd⟩).length≤140737488355328) (hu:∀a∈la,Word a.us):
  StIn W (some ⟨gA,0,none⟩) la la.length (some ⟨gJ,0,none⟩) qs qs.length∧wtN la qs≤281474976710656:=by
 rw [st_parts]at hl
 simp only at hl
 have h1:=acs_many la
 have h2:=jbs_many qs
 have hs:∀p∈qs,p.v.set.length≤setsN qs:=fun p hp=>sets_mem hp
 refine⟨⟨acs_at h.acs,fun n a ha=>hu a (List.mem_of_getElem? ha),fun a ha=>?_,by omega,Nat.le_refl _,nofun,⟨jbs_at h.jobs (by omega),fun p hp=>?_⟩,by omega,Nat.le_refl _,nofun,fun p hp=>?_,fun p hp=>?_,fun p hp e=>?_⟩,?_⟩
 ·have:=acs_nm ha
  unfold maxLen
  omega
 ·obtain ⟨g,e1,e2,_,e4⟩:=h.sets p hp
  rw [e1]
  exact ints_at e4
 ·have:=hs p hp
  omega
 ·obtain ⟨g,e1,e2,_,e4⟩:=h.sets p hp
  omega
 ·obtain ⟨g,e1,e2,_,e4⟩:=h.sets p hp
  rw [e1]at e
  cases e
 ·unfold wtN
  omega
end Go.Proofs.YtceoibfliggalaaGreatDoor
