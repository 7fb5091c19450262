/-
  The document's Parse as one function: just what the program's is.
-/
import Derived.Test.YtbpgaeeihfknfaaRefT2
namespace Go.Proofs.Ytbpgaeeihfknfaa
set_option linter.unusedVariables false
set_option linter.unusedSimpArgs false
open Go.RowKit Fm

theorem cut_not (s : ByteArray) (hb : numN s 14 / 4096 % 2 = 1) (hr : rightB (cutF s true) = true) : bytesOf (cutF s true) ≠ s := by
  intro e
  have hr' : rightB ⟨s.extract 0 6, s.extract 6 12, true, numN s 14 / 8192, numN s 14 % 4096, numN s 16, s.extract 18 s.size⟩ = true := hr
  obtain ⟨hd, hs, hp, hv, h0, h1, hl⟩ := right_parts hr'
  have h14 := (cut_bytesT _ _ (s.extract 18 s.size) _ _ _ hd hs hp.1 hp.2 hv.1 hv.2 h0 h1).2.2.1
  have e' : bytesOf ⟨s.extract 0 6, s.extract 6 12, true, numN s 14 / 8192, numN s 14 % 4096, numN s 16, s.extract 18 s.size⟩ = s := e
  rw [e'] at h14
  omega

theorem tag_at (s : ByteArray) (h : 14 ≤ s.size) : numN s 12 = (s[12].toNat : Int) * 256 + (s[13].toNat : Int) := (num_at s 12 (by omega)).symm

theorem rparse_any (s : ByteArray) (w : World) (hm : s.size ≤ 1700) :
    Calls Try.prog 11 #[.string s] w fun e w' => e = .returned (.tuple #[(parseR s).1.val, .int .i64 (parseR s).2]) ∧ Below w.heap.size w w' := by
  unfold parseR
  by_cases h1 : s.size < 14
  · rw [if_pos h1]; exact rparse_short s w h1
  rw [if_neg h1]
  have h14 : 14 ≤ s.size := by omega
  have ht0 := tag_at s h14
  have b1 := UInt8.toNat_lt s[12]
  have b2 := UInt8.toNat_lt s[13]
  by_cases ht : numN s 12 = 33024
  · rw [if_pos ht]
    have h12 : ((s[12].toNat : Int) == 129) = true := beq_iff_eq.2 (by omega)
    have h13 : ((s[13].toNat : Int) == 0) = true := beq_iff_eq.2 (by omega)
    by_cases h2 : s.size < 18
    · rw [if_pos h2]; exact rparse_TS s w h14 h2 h12 h13
    rw [if_neg h2]
    by_cases h3 : 1518 < s.size
    · rw [if_pos h3]; exact rparse_TL s w h3 hm h12 h13
    rw [if_neg h3]
    refine rparse_TM s w _ _ (by omega) (by omega) h12 h13 (bytesOf (cutF s true)) rfl ?_ ?_ ?_
    · intro hr hT
      have hr' : rightB (cutF s true) = true := hr
      rw [if_neg (fun hb => cut_not s hb hr' hT), if_pos hr']
      exact ⟨rfl, rfl⟩
    · intro hr hT
      have hr' : rightB (cutF s true) = true := hr
      by_cases hb : numN s 14 / 4096 % 2 = 1
      · rw [if_pos hb]
        exact ⟨rfl, rfl⟩
      · exact absurd (bytes_cutT s (by omega) ht hb) hT
    · intro hr
      have hr' : rightB (cutF s true) = false := hr
      by_cases hb : numN s 14 / 4096 % 2 = 1
      · rw [if_pos hb]
        exact ⟨rfl, rfl⟩
      · rw [if_neg hb, if_neg (by rw [hr']; exact Bool.false_ne_true)]
        exact ⟨rfl, rfl⟩
  · rw [if_neg ht]
    have hcase : ((s[12].toNat : Int) == 129) = false ∨ (((s[12].toNat : Int) == 129) = true ∧ ((s[13].toNat : Int) == 0) = false) := by
      by_cases hx : (s[12].toNat : Int) = 129
      · exact .inr ⟨beq_iff_eq.2 hx, beq_eq_false_iff_ne.2 (by omega)⟩
      · exact .inl (beq_eq_false_iff_ne.2 hx)
    by_cases h3 : 1514 < s.size
    · rw [if_pos h3]; exact rparse_UL s w h3 hm hcase
    rw [if_neg h3]
    refine rparse_UM s w _ _ h14 (by omega) hcase ?_ ?_
    · intro hr
      rw [if_pos (show rightB (cutF s false) = true from hr)]
      exact ⟨rfl, rfl⟩
    · intro hr
      have hr' : rightB (cutF s false) = false := hr
      rw [if_neg (by rw [hr']; exact Bool.false_ne_true)]
      exact ⟨rfl, rfl⟩

theorem rparse_is (s : ByteArray) (w : World) (F : Fr) (E : Int) (hP : Hid (parseR s = (F, E))) (hm : s.size ≤ 1700) :
    Calls Try.prog 11 #[.string s] w fun e w' => e = .returned (.tuple #[F.val, .int .i64 E]) ∧ Below w.heap.size w w' := by
  have h := rparse_any s w hm
  rw [hP.out] at h
  exact h
end Go.Proofs.Ytbpgaeeihfknfaa
