/-
  TEXTS: RuB, RuD.
-/
import Derived.Test.YtceoibfliggalaaGreatDoorKv3
namespace Go.Proofs.YtceoibfliggalaaGreatDoor
open Go.RowKit Wd Tr Cg Lg
def stL (c : Cf) (now : Int) (ao : Option Addr) (na ca : Nat) (jo : Option Addr) (nj cj : Nat) (hd : Int) : Array Value := #[.int .i64 c.nodes, .int .i64 c.queue, .int .i64 c.limit, .int .i64 c.age, .int .i64 c.fair, .int .i64 c.size, .int .i64 c.period, .int .i64 c.half, .int .i64 now, .slice ao na ca, .slice jo nj cj, .int .i64 hd]
end Go.Proofs.YtceoibfliggalaaGreatDoor
namespace Go.Proofs.YtceoibfliggalaaGreatDoor
open Go.RowKit Wd Tr Cg Lg
structure PjsAt (W : World) (jo : Option Addr) (ps : List Pj) : Prop where
 jobs : JobsAt W jo (ps.map Pj.jb)
 sets : ∀ p ∈ ps, IntsAt W p.sa p.v.set
theorem PjsAt.below {W W' : World} {jo : Option Addr} {ps : List Pj} (h : PjsAt W jo ps) (b : Below W.heap.size W W') : PjsAt W' jo ps := ⟨h.jobs.below b, fun p hp => (h.sets p hp).below b⟩
theorem raw_jb (n now : Int) : ∀ ps : List Pj, rawZ [n] now (ps.map Pj.jb) = rawJ n now (ps.map Pj.v)
 | [] => rfl
 | p :: ps => by
  simp only [List.map_cons, rawZ, rawJ, raw_jb n now ps]
  congr 1
  unfold oneZ ranZ ranJ Pj.jb
  simp only [List.mem_singleton]
theorem ints_one (W : World) (n : Int) : IntsAt (W.alloc (.cells #[.int .i64 n] 3)) (some ⟨W.heap.size, 0, none⟩) [n] := by
 refine ⟨_, _, fun _ => rfl, fun k x hx => ?_⟩
 rcases k with _ | k
 ·simp at hx
  subst hx
  simp
 ·simp at hx
end Go.Proofs.YtceoibfliggalaaGreatDoor
