/-
  TEXTS: SpM.
-/
import Derived.Test.YtceoibfliggalaaGreatDoorKw46
import Derived.Test.YtceoibfliggalaaGreatDoorKw38
import Derived.Laws.BitsAllLaws
namespace Go.Proofs.YtceoibfliggalaaGreatDoor
open Go.RowKit Wd Tr Cg Lg
theorem acs_by:∀la:List Ac,(la.flatMap acB).length+10*la.length=byA la
 | []=>rfl
 | a::la=>by
  have:=acs_by la
  rw [List.flatMap_cons,List.length_append,ac_len,List.length_cons]
  unfold byA
  omega
theorem jbs_by:∀ps:List Pj,((ps.map Pj.v).flatMap jbB).length+6*ps.length=byJ ps
 | []=>rfl
 | p::ps=>by
  have:=jbs_by ps
  rw [List.map_cons,List.flatMap_cons,List.length_append,jb_len,List.length_cons]
  unfold byJ
  omega
theorem sets_by:∀ps:List Pj,setsN ps*8+ps.length*70=byJ ps
 | []=>rfl
 | p::ps=>by
  have:=sets_by ps
  rw [List.length_cons]
  unfold byJ setsN
  omega
theorem accs_by:∀la:List Ac,la.length*50≤byA la
 | []=>Nat.le_refl _
 | a::la=>by
  have:=accs_by la
  rw [List.length_cons]
  unfold byA
  omega
theorem st_fits {c:Cf} {now hd:Int} {la:List Ac} {ps:List Pj} (h:¬2147483647<byN la ps):(stB ⟨c,now,la,ps.map Pj.v,hd⟩).length≤2147483647∧wtN la ps≤2147483647:=by
 have h1:=acs_by la
 have h2:=jbs_by ps
 have h3:=sets_by ps
 have h4:=accs_by la
 have h5:=st_parts ⟨c,now,la,ps.map Pj.v,hd⟩
 have h6:la.length=0→byA la=0:=fun e=>by rw [List.length_eq_zero_iff.1 e];rfl
 have h7:ps.length=0→byJ ps=0:=fun e=>by rw [List.length_eq_zero_iff.1 e];rfl
 simp only at h5
 unfold byN at h
 unfold wtN
 omega
end Go.Proofs.YtceoibfliggalaaGreatDoor
