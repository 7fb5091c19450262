/-
  Plain mathematics of layer 2 (LLC and SNAP): heads, kinds of frames, what stands in them. No program is named here.
-/
import Derived.Test.YtledabmmomgkoaaDoorLFr
namespace Go.Proofs.YtledabmmomgkoaaDoor
set_option linter.unusedVariables false
set_option linter.unusedSimpArgs false
namespace Fm
open Go.RowKit

/-- The groups, and how payloads begin. -/
abbrev g0 : ByteArray := ⟨#[]⟩
abbrev g1 : ByteArray := ⟨#[1, 128, 194, 0, 0, 0]⟩
abbrev g2 : ByteArray := ⟨#[1, 0, 12, 204, 204, 205]⟩
abbrev g9 : ByteArray := ⟨#[1, 128, 194, 0, 0, 15]⟩
abbrev b0 : ByteArray := ⟨#[]⟩
abbrev b1 : ByteArray := ⟨#[66, 66, 3]⟩
abbrev b2 : ByteArray := ⟨#[170, 170, 3, 0, 0, 12, 1, 11]⟩

/-- Does a text begin with these bytes? -/
def begB (s b : ByteArray) : Bool := decide (b.size ≤ s.size) && ((s.extract 0 b.size).toList == b.toList)
/-- Does a frame have a head? -/
def headB (d : ByteArray) (ty : Int) (pl : ByteArray) (g b : ByteArray) : Bool := (d.toList == g.toList) && (decide (ty < 1536) && begB pl b)
def leB (a b : List UInt8) : Bool := Op.bytesLess a b || a == b
def resB (s : ByteArray) : Bool := (s.toList == [1, 0, 12, 204, 204, 205]) || (leB [1, 128, 194, 0, 0, 0] s.toList && leB s.toList [1, 128, 194, 0, 0, 15])
/-- What a frame is. -/
def kindN (f : Fr) : Int :=
  if rightB f = true then
    if headB f.dst f.typ f.pay g1 b1 = true then 1
    else if headB f.dst f.typ f.pay g2 b2 = true then 2
    else if resB f.dst = true then 3 else 0
  else 0
theorem head_none (d : ByteArray) (ty : Int) (pl : ByteArray) (h : d.size = 6) : headB d ty pl g0 b0 = false := by
  unfold headB
  have e : (d.toList == g0.toList) = false := by
    rw [beq_eq_false_iff_ne]
    intro h1
    have h2 := congrArg List.length h1
    rw [ByteArray.toList_eq, ByteArray.toList_eq, Array.length_toList, Array.length_toList] at h2
    have : d.data.size = 6 := h
    rw [this] at h2
    exact absurd h2 (by decide)
  rw [e]; rfl

/-- What stands behind the head. -/
def innerR (f : Fr) : ByteArray × Int :=
  if kindN f = 1 then (f.pay.extract 3 f.pay.size, 0) else if kindN f = 2 then (f.pay.extract 8 f.pay.size, 0) else (⟨#[]⟩, 9)
/-- The frame that is made of a head, a source and inner bytes. -/
def rawF (g b src inner : ByteArray) : Fr := ⟨g, src, false, 0, 0, (b.size : Int) + (inner.size : Int), b ++ inner⟩
def madeR (g b src inner : ByteArray) : Fr × Int :=
  if 1500 < b.size + inner.size then (zero, 4) else if rightB (rawF g b src inner) = true then (rawF g b src inner, 0) else (zero, 2)
/-- The SNAP payload. -/
def snapR (org : ByteArray) (n : Int) (inner : ByteArray) : ByteArray × Int :=
  if org.size ≠ 3 then (⟨#[]⟩, 2) else if n < 0 ∨ 65535 < n then (⟨#[]⟩, 1) else (⟨#[170, 170, 3]⟩ ++ org ++ w16 n ++ inner, 0)

theorem head_len {d : ByteArray} {ty : Int} {pl g b : ByteArray} (h : headB d ty pl g b = true) : b.size ≤ pl.size := by
  unfold headB begB at h
  simp at h
  exact h.2.2.1
theorem kind_cases (f : Fr) : (kindN f = 1 ∧ 3 ≤ f.pay.size) ∨ (kindN f = 2 ∧ 8 ≤ f.pay.size) ∨ (kindN f = 3) ∨ (kindN f = 0) := by
  unfold kindN
  split
  · split
    · left; exact ⟨rfl, head_len (g := g1) (b := b1) (by assumption)⟩
    · split
      · right; left; exact ⟨rfl, head_len (g := g2) (b := b2) (by assumption)⟩
      · split
        · simp
        · simp
  · simp

end Fm
end Go.Proofs.YtledabmmomgkoaaDoor
