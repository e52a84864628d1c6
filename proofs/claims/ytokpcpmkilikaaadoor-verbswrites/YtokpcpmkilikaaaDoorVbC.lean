/-
  The plain mathematics of layer 8: commands: what is read, what is written, there and back.
-/
import Derived.Test.YtokpcpmkilikaaaDoorVbM
namespace Go.Proofs.YtokpcpmkilikaaaDoor.Vb

/-- A command. -/
structure Cm where
  kind : Int
  nm : Bs
  pa : Bs
  sh : Int
  nd : Int
  lm : Int
  jb : Int
  tk : Int
/-- Whether two commands are one can be told. -/
def cmDec (a b : Cm) : Decidable (a = b) :=
  decidable_of_iff (a.kind = b.kind ∧ a.nm = b.nm ∧ a.pa = b.pa ∧ a.sh = b.sh ∧ a.nd = b.nd ∧ a.lm = b.lm ∧ a.jb = b.jb ∧ a.tk = b.tk) (by
    cases a
    cases b
    simp)
def zeroC : Cm := ⟨0, [], [], 0, 0, 0, 0, 0⟩

/-- The thirteen words, and the letters of what stands behind each: N the name, P the parent, h shares, n nodes, l limit, j job, t ticks. -/
def words : List (Bs × Bs) := [
  ([115, 117, 98, 109, 105, 116], [78, 110, 108]),
  ([99, 97, 110, 99, 101, 108], [106]),
  ([99, 111, 109, 112, 108, 101, 116, 101], [106]),
  ([116, 105, 99, 107], [116]),
  ([97, 99, 99, 111, 117, 110, 116], [78, 80, 104]),
  ([115, 104, 97, 114, 101, 115], [78, 104]),
  ([109, 111, 118, 101], [78, 80]),
  ([99, 108, 111, 115, 101], [78]),
  ([106, 111, 98], [106]),
  ([113, 117, 101, 117, 101], []),
  ([117, 115, 97, 103, 101], [78]),
  ([110, 111, 100, 101, 115], []),
  ([99, 111, 110, 102, 105, 103], [])]
def wordV (k : Int) : Bs × Bs := if 1 ≤ k ∧ k ≤ 13 then words.getD (k - 1).toNat ([], []) else ([], [])
/-- The kind of a word among the first n; the last one that fits. -/
def kindTo (w : Bs) : Nat → Nat
  | 0 => 0
  | n + 1 => if (wordV ((n : Int) + 1)).1 = w then n + 1 else kindTo w n
def kindV (w : Bs) : Nat := kindTo w 13

def isNm (x : UInt8) : Bool := x == 78 || x == 80
def getS (c : Cm) (x : UInt8) : Bs := if x = 78 then c.nm else c.pa
def setS (c : Cm) (x : UInt8) (s : Bs) : Cm := if x = 78 then { c with nm := s } else { c with pa := s }
def getI (c : Cm) (x : UInt8) : Int := if x = 104 then c.sh else if x = 110 then c.nd else if x = 108 then c.lm else if x = 106 then c.jb else c.tk
def setI (c : Cm) (x : UInt8) (n : Int) : Cm := if x = 104 then { c with sh := n } else if x = 110 then { c with nd := n } else if x = 108 then { c with lm := n } else if x = 106 then { c with jb := n } else { c with tk := n }

def fillV : Cm → Bs → List Bs → Option Cm
  | c, [], _ => some c
  | _, _ :: _, [] => none
  | c, x :: f, p :: ps =>
    if isNm x = true then (if validV p = true then fillV (setS c x p) f ps else none)
    else match numV p with
      | none => none
      | some n => fillV (setI c x (n : Int)) f ps
def parseK (k : Nat) (l : List Bs) : Cm × Int :=
  if k = 0 then (zeroC, 81)
  else if l.length ≠ (wordV (k : Int)).2.length + 1 then (zeroC, 82)
  else match fillV { zeroC with kind := k } (wordV (k : Int)).2 l.tail with
    | none => (zeroC, 83)
    | some c => (c, 0)
def parseP (l : List Bs) : Cm × Int := parseK (kindV (l.headD [])) l
def parseV (line : Bs) : Cm × Int := if 256 < line.length then (zeroC, 80) else parseP (splitV line)

def clearV : Cm → Bs → Option Cm
  | c, [] => some c
  | c, x :: f =>
    if isNm x = true then (if validV (getS c x) = true then clearV (setS c x []) f else none)
    else if getI c x < 0 then none else clearV (setI c x 0) f
def checkV (c : Cm) : Int :=
  if (wordV c.kind).1 = [] then 84
  else match clearV { c with kind := 0 } (wordV c.kind).2 with
    | none => 84
    | some r => @ite Int (r = zeroC) (cmDec r zeroC) 0 84
def pieceV (c : Cm) (x : UInt8) : Bs := if isNm x = true then getS c x else digV (getI c x).toNat
def lineV (c : Cm) : Bs → Bs → Bs
  | s, [] => s
  | s, x :: f => lineV c (s ++ 32 :: pieceV c x) f
def printV (c : Cm) : Bs × Int := if checkV c = 0 then (lineV c (wordV c.kind).1 (wordV c.kind).2, 0) else ([], 84)

theorem line_join (c : Cm) (f : Bs) : ∀ s, lineV c s f = joinV (s :: f.map (pieceV c)) := by
  induction f with
  | nil => intro s; rfl
  | cons x f ih =>
    intro s
    show lineV c (s ++ 32 :: pieceV c x) f = _
    rw [ih]
    cases f with
    | nil => rfl
    | cons y g => show (s ++ 32 :: pieceV c x) ++ 32 :: joinV (pieceV c y :: g.map (pieceV c)) = s ++ 32 :: (pieceV c x ++ 32 :: joinV (pieceV c y :: g.map (pieceV c))); simp

theorem check_two (c : Cm) : checkV c = 0 ∨ checkV c = 84 := by
  unfold checkV
  split
  · exact .inr rfl
  · split
    · exact .inr rfl
    · split
      · exact .inl rfl
      · exact .inr rfl
theorem parse_zero (line : Bs) : (parseV line).2 = 0 ∨ (parseV line).1 = zeroC := by
  unfold parseV
  split
  · exact .inr rfl
  · unfold parseP parseK
    split
    · exact .inr rfl
    · split
      · exact .inr rfl
      · split
        · exact .inr rfl
        · exact .inl rfl
theorem kind_range {k : Int} (h : (wordV k).1 ≠ []) : k = 1 ∨ k = 2 ∨ k = 3 ∨ k = 4 ∨ k = 5 ∨ k = 6 ∨ k = 7 ∨ k = 8 ∨ k = 9 ∨ k = 10 ∨ k = 11 ∨ k = 12 ∨ k = 13 := by
  unfold wordV at h
  split at h
  · omega
  · exact absurd rfl h
theorem valid_len {s : Bs} (h : validV s = true) : s.length ≤ 32 := by
  unfold validV at h; simp at h; omega
theorem dig_len {n : Nat} (h : n ≤ 9223372036854775807) : (digV n).length ≤ 19 := digV_length 18 n (by omega)
/-- The numbers of a command are ints. -/
structure Fits (c : Cm) : Prop where
  sh : c.sh ≤ 9223372036854775807
  nd : c.nd ≤ 9223372036854775807
  lm : c.lm ≤ 9223372036854775807
  jb : c.jb ≤ 9223372036854775807
  tk : c.tk ≤ 9223372036854775807
end Go.Proofs.YtokpcpmkilikaaaDoor.Vb
