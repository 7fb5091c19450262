/-
  Plain mathematics of layer 2: what was made is of its kind, and has its inner bytes, tagged or not; to another address it is of another kind.
-/
import Derived.Test.YtledabmmomgkoaaDoorL2Math
namespace Go.Proofs.YtledabmmomgkoaaDoor
set_option linter.unusedVariables false
set_option linter.unusedSimpArgs false
namespace Fm
open Go.RowKit

theorem app_list (a b : ByteArray) : (a ++ b).data.toList = a.data.toList ++ b.data.toList := by simp
theorem ext_list (s : ByteArray) (i j : Nat) : (s.extract i j).data.toList = (s.data.toList.take j).drop i := by simp [List.drop_take]
theorem size_list (s : ByteArray) : s.size = s.data.toList.length := by rw [Array.length_toList]; rfl
theorem ext_head (b x : ByteArray) : (b ++ x).extract 0 b.size = b := by
  apply bytes_ext
  rw [ext_list, app_list, size_list]
  simp
theorem ext_tail (b x : ByteArray) : (b ++ x).extract b.size (b ++ x).size = x := by
  apply bytes_ext
  rw [ext_list, size_list (b ++ x), List.take_length, app_list, size_list b]
  simp
theorem beg_app (b x : ByteArray) : begB (b ++ x) b = true := by
  unfold begB
  rw [ext_head, ByteArray.size_append]
  simp

theorem eq_list {a b : ByteArray} : (a.toList == b.toList) = true ↔ a = b := by
  constructor
  · intro h
    rw [beq_iff_eq, ByteArray.toList_eq, ByteArray.toList_eq] at h
    exact bytes_ext h
  · rintro rfl; simp
theorem ne_list {a b : ByteArray} (h : a ≠ b) : (a.toList == b.toList) = false := by
  cases e : (a.toList == b.toList)
  · rfl
  · exact absurd (eq_list.1 e) h

theorem kind1_of {f : Fr} (hr : rightB f = true) (hd : f.dst = g1) (ht : f.typ < 1536) (hb : begB f.pay b1 = true) : kindN f = 1 := by
  unfold kindN
  have h : headB f.dst f.typ f.pay g1 b1 = true := by unfold headB; rw [hd, hb]; simp [ht]
  rw [if_pos hr, if_pos h]
theorem kind2_of {f : Fr} (hr : rightB f = true) (hd : f.dst = g2) (ht : f.typ < 1536) (hb : begB f.pay b2 = true) : kindN f = 2 := by
  unfold kindN
  have h1 : headB f.dst f.typ f.pay g1 b1 = false := by
    unfold headB; rw [hd, ne_list (show g2 ≠ g1 by decide)]; rfl
  have h : headB f.dst f.typ f.pay g2 b2 = true := by unfold headB; rw [hd, hb]; simp [ht]
  rw [if_pos hr, if_neg (by rw [h1]; decide), if_pos h]
theorem kind1_not {f : Fr} (hd : f.dst ≠ g1) : kindN f ≠ 1 := by
  have h1 : headB f.dst f.typ f.pay g1 b1 = false := by unfold headB; rw [ne_list hd]; rfl
  unfold kindN
  rw [h1]
  rw [if_neg (show ¬ (false = true) by decide)]
  repeat' split
  all_goals decide
theorem kind2_not {f : Fr} (hd : f.dst ≠ g2) : kindN f ≠ 2 := by
  have h1 : headB f.dst f.typ f.pay g2 b2 = false := by unfold headB; rw [ne_list hd]; rfl
  unfold kindN
  rw [h1]
  rw [if_neg (show ¬ (false = true) by decide)]
  repeat' split
  all_goals decide
theorem inner1_of {f : Fr} (x : ByteArray) (hk : kindN f = 1) (hp : f.pay = b1 ++ x) : innerR f = (x, 0) := by
  unfold innerR
  rw [if_pos hk, hp]
  have := ext_tail b1 x
  rw [show (3 : Nat) = b1.size from rfl, this]
theorem inner2_of {f : Fr} (x : ByteArray) (hk : kindN f = 2) (hp : f.pay = b2 ++ x) : innerR f = (x, 0) := by
  unfold innerR
  rw [if_neg (by rw [hk]; decide), if_pos hk, hp]
  have := ext_tail b2 x
  rw [show (8 : Nat) = b2.size from rfl, this]

/-- What is made: an error, or the raw frame, right. -/
theorem made_cases (g b src inner : ByteArray) : ∃ F E, madeR g b src inner = (F, E) ∧ ((E = 4 ∨ E = 2) ∧ F = zero ∨ E = 0 ∧ F = rawF g b src inner ∧ rightB F = true ∧ b.size + inner.size ≤ 1500) := by
  unfold madeR
  by_cases h : 1500 < b.size + inner.size
  · exact ⟨zero, 4, by rw [if_pos h], Or.inl ⟨Or.inl rfl, rfl⟩⟩
  · rw [if_neg h]
    by_cases hr : rightB (rawF g b src inner) = true
    · exact ⟨_, 0, by rw [if_pos hr], Or.inr ⟨rfl, rfl, hr, by omega⟩⟩
    · exact ⟨zero, 2, by rw [if_neg hr], Or.inl ⟨Or.inr rfl, rfl⟩⟩
theorem right_tagged {d s : ByteArray} {t : Bool} {p v ty : Int} {pl : ByteArray} (h : rightB ⟨d, s, t, p, v, ty, pl⟩ = true) (vl : Int) (hv : withinB vl 4094 = true) : rightB ⟨d, s, true, p, vl, ty, pl⟩ = true := by
  rw [right_iff] at h ⊢
  obtain ⟨h1, h2, h3, h4, h5, h6⟩ := h
  unfold withinB at hv
  simp at hv
  exact ⟨h1, h2, h3, by omega, Or.inl rfl, h6⟩
theorem right_dst {d d' s : ByteArray} {t : Bool} {p v ty : Int} {pl : ByteArray} (h : rightB ⟨d, s, t, p, v, ty, pl⟩ = true) (hd : d'.size = 6) : rightB ⟨d', s, t, p, v, ty, pl⟩ = true := by
  rw [right_iff] at h ⊢
  exact ⟨hd, h.2⟩

/-- What the law asks of a frame that was made of kind k. -/
structure GoodF (k : Int) (fd fs : ByteArray) (fp fvl fty : Int) (fpl inner : ByteArray) : Prop where
  right : rightB ⟨fd, fs, false, fp, fvl, fty, fpl⟩ = true
  kind : kindN ⟨fd, fs, false, fp, fvl, fty, fpl⟩ = k
  inn : innerR ⟨fd, fs, false, fp, fvl, fty, fpl⟩ = (inner, 0)
  tagged : ∀ vl, withinB vl 4094 = true → kindN ⟨fd, fs, true, fp, vl, fty, fpl⟩ = k ∧ innerR ⟨fd, fs, true, fp, vl, fty, fpl⟩ = (inner, 0)
  same : ∀ d : ByteArray, d = fd → kindN ⟨d, fs, false, fp, fvl, fty, fpl⟩ = k
  other : ∀ d : ByteArray, d ≠ fd → kindN ⟨d, fs, false, fp, fvl, fty, fpl⟩ ≠ k

theorem made1 (src inner : ByteArray) : ∃ fd fs ft fp fvl fty fpl E, madeR g1 b1 src inner = (⟨fd, fs, ft, fp, fvl, fty, fpl⟩, E) ∧ ((E = 4 ∨ E = 2) ∨ E = 0 ∧ ft = false ∧ GoodF 1 fd fs fp fvl fty fpl inner) := by
  obtain ⟨F, E, hm, h⟩ := made_cases g1 b1 src inner
  obtain ⟨fd, fs, ft, fp, fvl, fty, fpl⟩ := F
  refine ⟨fd, fs, ft, fp, fvl, fty, fpl, E, hm, ?_⟩
  rcases h with ⟨hE, _⟩ | ⟨rfl, hF, hr, hz⟩
  · exact Or.inl hE
  right
  unfold rawF at hF
  injection hF with e1 e2 e3 e4 e5 e6 e7
  subst e1 e3 e4 e5 e6 e7
  have hz' : inner.size ≤ 1497 := by have : b1.size = 3 := rfl; omega
  have ht : (b1.size : Int) + (inner.size : Int) < 1536 := by have : b1.size = 3 := rfl; omega
  have kd := kind1_of hr rfl ht (beg_app b1 inner)
  refine ⟨rfl, rfl, hr, kd, inner1_of inner kd rfl, ?_, ?_, ?_⟩
  · intro vl hv
    have kt := kind1_of (right_tagged hr vl hv) rfl ht (beg_app b1 inner)
    exact ⟨kt, inner1_of inner kt rfl⟩
  · rintro d rfl; exact kd
  · intro d hd; exact kind1_not hd

theorem made2 (src inner : ByteArray) : ∃ fd fs ft fp fvl fty fpl E, madeR g2 b2 src inner = (⟨fd, fs, ft, fp, fvl, fty, fpl⟩, E) ∧ ((E = 4 ∨ E = 2) ∨ E = 0 ∧ ft = false ∧ GoodF 2 fd fs fp fvl fty fpl inner) := by
  obtain ⟨F, E, hm, h⟩ := made_cases g2 b2 src inner
  obtain ⟨fd, fs, ft, fp, fvl, fty, fpl⟩ := F
  refine ⟨fd, fs, ft, fp, fvl, fty, fpl, E, hm, ?_⟩
  rcases h with ⟨hE, _⟩ | ⟨rfl, hF, hr, hz⟩
  · exact Or.inl hE
  right
  unfold rawF at hF
  injection hF with e1 e2 e3 e4 e5 e6 e7
  subst e1 e3 e4 e5 e6 e7
  have ht : (b2.size : Int) + (inner.size : Int) < 1536 := by have : b2.size = 8 := rfl; omega
  have kd := kind2_of hr rfl ht (beg_app b2 inner)
  refine ⟨rfl, rfl, hr, kd, inner2_of inner kd rfl, ?_, ?_, ?_⟩
  · intro vl hv
    have kt := kind2_of (right_tagged hr vl hv) rfl ht (beg_app b2 inner)
    exact ⟨kt, inner2_of inner kt rfl⟩
  · rintro d rfl; exact kd
  · intro d hd; exact kind2_not hd
end Fm
end Go.Proofs.YtledabmmomgkoaaDoor
