/-
  '==' between two frames, as one Bool.
-/
import Derived.Test.YtbpgaeeihfknfaaFrK
import Derived.Test.YtbpgaeeihfknfaaFrBack
namespace Go.Proofs.Ytbpgaeeihfknfaa
set_option linter.unusedVariables false
set_option linter.unusedSimpArgs false
open Go.RowKit Fm

def frEq (f g : Fr) : Bool := (f.dst.toList == g.dst.toList) && ((f.src.toList == g.src.toList) && ((f.tagged == g.tagged) && ((f.pri == g.pri) && ((f.vlan == g.vlan) && ((f.typ == g.typ) && (f.pay.toList == g.pay.toList))))))

theorem run_frEq (d s : ByteArray) (t : Bool) (p v ty : Int) (pl : ByteArray) (d' s' : ByteArray) (t' : Bool) (p' v' ty' : Int) (pl' : ByteArray) (w : World) :
    Sem.run Try.prog (binOp .eql 23 (fv d s t p v ty pl) (fv d' s' t' p' v' ty' pl')) w = .ok (.bool (frEq ⟨d, s, t, p, v, ty, pl⟩ ⟨d', s', t', p', v', ty', pl'⟩)) w := by
  unfold fv
  go_simp
  repeat' split
  all_goals simp_all [frEq]

theorem run_frNe (d s : ByteArray) (t : Bool) (p v ty : Int) (pl : ByteArray) (d' s' : ByteArray) (t' : Bool) (p' v' ty' : Int) (pl' : ByteArray) (w : World) :
    Sem.run Try.prog (binOp .neq 23 (fv d s t p v ty pl) (fv d' s' t' p' v' ty' pl')) w = .ok (.bool (!frEq ⟨d, s, t, p, v, ty, pl⟩ ⟨d', s', t', p', v', ty', pl'⟩)) w := by
  unfold fv
  go_simp
  repeat' split
  all_goals simp_all [frEq]

theorem list_eq {a b : ByteArray} (h : a.toList = b.toList) : a = b := by
  rw [ByteArray.toList_eq, ByteArray.toList_eq] at h
  exact bytes_ext h
theorem frEq_true (f g : Fr) : frEq f g = true ↔ f = g := by
  constructor
  · intro h
    obtain ⟨d, s, t, p, v, ty, pl⟩ := f
    obtain ⟨d', s', t', p', v', ty', pl'⟩ := g
    simp [frEq] at h
    obtain ⟨h1, h2, h3, h4, h5, h6, h7⟩ := h
    obtain rfl := list_eq h1
    obtain rfl := list_eq h2
    obtain rfl := list_eq h7
    subst h3 h4 h5 h6
    rfl
  · rintro rfl
    simp [frEq]
theorem frEq_self (f : Fr) : frEq f f = true := (frEq_true f f).2 rfl
/-- Of right frames: their bytes are the same just if they are. -/
theorem bytes_eq (f g : Fr) (hf : rightB f = true) (hg : rightB g = true) : ((bytesOf f).toList == (bytesOf g).toList) = frEq f g := by
  rw [Bool.eq_iff_iff, frEq_true, beq_iff_eq]
  constructor
  · intro h; exact bytes_inj f g hf hg (list_eq h)
  · rintro rfl; rfl
end Go.Proofs.Ytbpgaeeihfknfaa
