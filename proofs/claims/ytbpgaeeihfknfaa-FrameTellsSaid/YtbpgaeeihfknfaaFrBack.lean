/-
  Plain mathematics of layer 1: what was printed is parsed, what is parsed is printed; unlike frames have unlike bytes.
-/
import Derived.Test.YtbpgaeeihfknfaaFrMath
import Derived.Lib.Strings
import Derived.Lib.SmallJoins
namespace Go.Proofs.Ytbpgaeeihfknfaa
set_option linter.unusedVariables false
set_option linter.unusedSimpArgs false
namespace Fm
open Go.RowKit

theorem bytes_ext {a b : ByteArray} (h : a.data.toList = b.data.toList) : a = b := by
  obtain ⟨⟨x⟩⟩ := a
  obtain ⟨⟨y⟩⟩ := b
  simp only at h
  rw [h]
theorem size_list (s : ByteArray) : s.size = s.data.toList.length := by rw [Array.length_toList]; rfl
theorem six {α : Type} {l : List α} (h : l.length = 6) : ∃ a b c d e f, l = [a, b, c, d, e, f] := by
  match l, h with
  | [a, b, c, d, e, f], _ => exact ⟨a, b, c, d, e, f, rfl⟩
theorem getD_list (s : ByteArray) (k : Nat) : s.data.getD k 0 = s.data.toList.getD k 0 := by
  obtain ⟨⟨l⟩⟩ := s
  simp
theorem numN_list (s : ByteArray) (k : Nat) : numN s k = ((s.data.toList.getD k 0).toNat : Int) * 256 + (s.data.toList.getD (k + 1) 0).toNat := by
  unfold numN; rw [getD_list, getD_list]

/-- Two bytes, and the number that they say. -/
theorem w16_pair (a b : UInt8) : w16 ((a.toNat : Int) * 256 + b.toNat) = ⟨#[a, b]⟩ := by
  have h1 := UInt8.toNat_lt a
  have h2 := UInt8.toNat_lt b
  unfold w16
  have e1 : (((a.toNat : Int) * 256 + b.toNat) / 256 % 256).toNat = a.toNat := by omega
  have e2 : (((a.toNat : Int) * 256 + b.toNat) % 256).toNat = b.toNat := by omega
  rw [e1, e2, UInt8.ofNat_toNat, UInt8.ofNat_toNat]
theorem w16_num (n : Int) (h0 : 0 ≤ n) (h1 : n ≤ 65535) : ((UInt8.ofNat (n / 256 % 256).toNat).toNat : Int) * 256 + (UInt8.ofNat (n % 256).toNat).toNat = n := by
  rw [UInt8.toNat_ofNat', UInt8.toNat_ofNat']
  omega

theorem ext_list (s : ByteArray) (a b : Nat) : (s.extract a b).data.toList = (s.data.toList.drop a).take (b - a) := Lib.extract_data s a b

/-- A row of at least 14 bytes, cut into its parts. -/
theorem cut14 {l : List UInt8} (h : 14 ≤ l.length) : l = (l.drop 0).take 6 ++ ((l.drop 6).take 6) ++ [l.getD 12 0, l.getD 13 0] ++ l.drop 14 := by
  match l, h with
  | a0 :: a1 :: a2 :: a3 :: a4 :: a5 :: a6 :: a7 :: a8 :: a9 :: a10 :: a11 :: a12 :: a13 :: r, _ => rfl
theorem cut4 {l : List UInt8} (h : 4 ≤ l.length) : l = [l.getD 0 0, l.getD 1 0] ++ [l.getD 2 0, l.getD 3 0] ++ l.drop 4 := by
  match l, h with
  | a0 :: a1 :: a2 :: a3 :: r, _ => rfl
theorem cut18 {l : List UInt8} (h : 18 ≤ l.length) : l = (l.drop 0).take 6 ++ ((l.drop 6).take 6) ++ [l.getD 12 0, l.getD 13 0] ++ [l.getD 14 0, l.getD 15 0] ++ [l.getD 16 0, l.getD 17 0] ++ l.drop 18 := by
  have h1 := cut14 (l := l) (by omega)
  have h2 := cut4 (l := l.drop 14) (by simp; omega)
  have e : ∀ k, (l.drop 14).getD k 0 = l.getD (14 + k) 0 := fun k => by simp [List.getD_eq_getElem?_getD, List.getElem?_drop]
  rw [e, e, e, e, List.drop_drop] at h2
  rw [h2] at h1
  simpa only [List.append_assoc] using h1

theorem app_list (a b : ByteArray) : (a ++ b).data.toList = a.data.toList ++ b.data.toList := Joins.data_append a b

theorem take_end (l : List UInt8) (k : Nat) : (l.drop k).take (l.length - k) = l.drop k := List.take_of_length_le (by simp)

/-- The bytes of what was cut out of bytes are these bytes: untagged. -/
theorem bytes_cutU (s : ByteArray) (h : 14 ≤ s.size) : bytesOf (cutF s false) = s := by
  apply bytes_ext
  rw [size_list] at h
  simp only [cutF, bytesOf, tagBytes, Bool.false_eq_true, if_false, app_nil]
  rw [numN_list, w16_pair]
  simp only [app_list, ext_list, size_list, take_end]
  exact (cut14 h).symm
theorem bytes_cutT (s : ByteArray) (h : 18 ≤ s.size) (ht : numN s 12 = 33024) (hb : numN s 14 / 4096 % 2 ≠ 1) : bytesOf (cutF s true) = s := by
  apply bytes_ext
  rw [size_list] at h
  have hn : numN s 14 / 8192 * 8192 + numN s 14 % 4096 = numN s 14 := by have := numN_bd s 14; omega
  have h12 : (⟨#[129, 0]⟩ : ByteArray) = ⟨#[s.data.toList.getD 12 0, s.data.toList.getD 13 0]⟩ := by
    rw [← w16_tag, ← ht, numN_list, w16_pair]
  simp only [cutF, bytesOf, tagBytes, if_pos]
  rw [hn, h12, numN_list, w16_pair, numN_list, w16_pair]
  simp only [app_list, ext_list, size_list, take_end]
  rw [← List.append_assoc]
  exact (cut18 h).symm

/-- What is parsed is right, and printed again it is what it was. -/
theorem parse_print (s : ByteArray) (f : Fr) (h : parseR s = (f, 0)) : rightB f = true ∧ bytesOf f = s := by
  unfold parseR at h
  by_cases h1 : s.size < 14
  · rw [if_pos h1] at h; simp at h
  rw [if_neg h1] at h
  by_cases ht : numN s 12 = 33024
  · rw [if_pos ht] at h
    by_cases h2 : s.size < 18
    · rw [if_pos h2] at h; simp at h
    rw [if_neg h2] at h
    by_cases h3 : 1518 < s.size
    · rw [if_pos h3] at h; simp at h
    rw [if_neg h3] at h
    by_cases hb : numN s 14 / 4096 % 2 = 1
    · rw [if_pos hb] at h; simp at h
    rw [if_neg hb] at h
    by_cases hr : rightB (cutF s true) = true
    · rw [if_pos hr] at h
      simp only [Prod.mk.injEq, and_true] at h
      subst h
      exact ⟨hr, bytes_cutT s (by omega) ht hb⟩
    · rw [if_neg hr] at h; simp at h
  · rw [if_neg ht] at h
    by_cases h3 : 1514 < s.size
    · rw [if_pos h3] at h; simp at h
    rw [if_neg h3] at h
    by_cases hr : rightB (cutF s false) = true
    · rw [if_pos hr] at h
      simp only [Prod.mk.injEq, and_true] at h
      subst h
      exact ⟨hr, bytes_cutU s (by omega)⟩
    · rw [if_neg hr] at h; simp at h

theorem w16_list (n : Int) : (w16 n).data.toList = [UInt8.ofNat (n / 256 % 256).toNat, UInt8.ofNat (n % 256).toNat] := rfl

theorem cut_bytesU (d s pl : ByteArray) (ty : Int) (hd : d.size = 6) (hs : s.size = 6) (h0 : 0 ≤ ty) (h1 : ty ≤ 65535) :
    (bytesOf ⟨d, s, false, 0, 0, ty, pl⟩).size = 14 + pl.size ∧ numN (bytesOf ⟨d, s, false, 0, 0, ty, pl⟩) 12 = ty ∧ cutF (bytesOf ⟨d, s, false, 0, 0, ty, pl⟩) false = ⟨d, s, false, 0, 0, ty, pl⟩ := by
  have hL : (bytesOf ⟨d, s, false, 0, 0, ty, pl⟩).data.toList = d.data.toList ++ s.data.toList ++ [UInt8.ofNat (ty / 256 % 256).toNat, UInt8.ofNat (ty % 256).toNat] ++ pl.data.toList := by
    simp only [bytesOf, tagBytes, Bool.false_eq_true, if_false, app_nil, app_list, w16_list]
  generalize bytesOf ⟨d, s, false, 0, 0, ty, pl⟩ = B at hL ⊢
  have hn := w16_num ty h0 h1
  rw [size_list] at hd hs
  obtain ⟨a0, a1, a2, a3, a4, a5, ed⟩ := six hd
  obtain ⟨b0, b1, b2, b3, b4, b5, es⟩ := six hs
  have hz : B.size = 14 + pl.size := by rw [size_list, hL, ed, es, size_list]; simp; omega
  have h12 : numN B 12 = ty := by rw [numN_list, hL, ed, es]; exact hn
  refine ⟨hz, h12, ?_⟩
  have e1 : B.extract 0 6 = d := bytes_ext (by rw [ext_list, hL, ed, es]; rfl)
  have e2 : B.extract 6 12 = s := bytes_ext (by rw [ext_list, hL, ed, es]; rfl)
  have e3 : B.extract 14 B.size = pl := bytes_ext (by rw [ext_list, size_list, take_end, hL, ed, es]; rfl)
  simp only [cutF]
  rw [e1, e2, e3, h12]

theorem cut_bytesT (d s pl : ByteArray) (p v ty : Int) (hd : d.size = 6) (hs : s.size = 6) (hp0 : 0 ≤ p) (hp1 : p ≤ 7) (hv0 : 0 ≤ v) (hv1 : v ≤ 4094) (h0 : 0 ≤ ty) (h1 : ty ≤ 65535) :
    (bytesOf ⟨d, s, true, p, v, ty, pl⟩).size = 18 + pl.size ∧ numN (bytesOf ⟨d, s, true, p, v, ty, pl⟩) 12 = 33024 ∧ numN (bytesOf ⟨d, s, true, p, v, ty, pl⟩) 14 = p * 8192 + v ∧ cutF (bytesOf ⟨d, s, true, p, v, ty, pl⟩) true = ⟨d, s, true, p, v, ty, pl⟩ := by
  have hL : (bytesOf ⟨d, s, true, p, v, ty, pl⟩).data.toList = d.data.toList ++ s.data.toList ++ ([129, 0] ++ [UInt8.ofNat ((p * 8192 + v) / 256 % 256).toNat, UInt8.ofNat ((p * 8192 + v) % 256).toNat]) ++ [UInt8.ofNat (ty / 256 % 256).toNat, UInt8.ofNat (ty % 256).toNat] ++ pl.data.toList := by
    simp only [bytesOf, tagBytes, if_true, app_list, w16_list]
  generalize bytesOf ⟨d, s, true, p, v, ty, pl⟩ = B at hL ⊢
  have hn := w16_num ty h0 h1
  have hm := w16_num (p * 8192 + v) (by omega) (by omega)
  rw [size_list] at hd hs
  obtain ⟨a0, a1, a2, a3, a4, a5, ed⟩ := six hd
  obtain ⟨b0, b1, b2, b3, b4, b5, es⟩ := six hs
  have hz : B.size = 18 + pl.size := by rw [size_list, hL, ed, es, size_list]; simp; omega
  have h12 : numN B 12 = 33024 := by
    rw [numN_list, hL, ed, es]
    show ((129 : UInt8).toNat : Int) * 256 + ((0 : UInt8).toNat : Int) = 33024
    decide
  have h14 : numN B 14 = p * 8192 + v := by rw [numN_list, hL, ed, es]; exact hm
  have h16 : numN B 16 = ty := by rw [numN_list, hL, ed, es]; exact hn
  refine ⟨hz, h12, h14, ?_⟩
  have e1 : B.extract 0 6 = d := bytes_ext (by rw [ext_list, hL, ed, es]; rfl)
  have e2 : B.extract 6 12 = s := bytes_ext (by rw [ext_list, hL, ed, es]; rfl)
  have e3 : B.extract 18 B.size = pl := bytes_ext (by rw [ext_list, size_list, take_end, hL, ed, es]; rfl)
  have e4 : (p * 8192 + v) / 8192 = p := by omega
  have e5 : (p * 8192 + v) % 4096 = v := by omega
  simp only [cutF]
  rw [e1, e2, e3, h14, h16, e4, e5]

theorem right_typ {d s : ByteArray} {t : Bool} {p v ty : Int} {pl : ByteArray} (h : rightB ⟨d, s, t, p, v, ty, pl⟩ = true) : ty ≠ 33024 := by
  simp only [rightB, typB] at h
  simp at h
  omega
theorem right_untagged {d s : ByteArray} {p v ty : Int} {pl : ByteArray} (h : rightB ⟨d, s, false, p, v, ty, pl⟩ = true) : p = 0 ∧ v = 0 := by
  simp only [rightB, tagB] at h
  simp at h
  omega

/-- What was printed is parsed. -/
theorem print_parse (f : Fr) (h : rightB f = true) : parseR (bytesOf f) = (f, 0) := by
  obtain ⟨d, s, t, p, v, ty, pl⟩ := f
  obtain ⟨hd, hs, hp, hv, h0, h1, hl⟩ := right_parts h
  have hty := right_typ h
  cases t with
  | false =>
    obtain ⟨rfl, rfl⟩ := right_untagged h
    obtain ⟨hz, h12, hc⟩ := cut_bytesU d s pl ty hd hs h0 h1
    unfold parseR
    rw [if_neg (by omega), if_neg (by rw [h12]; exact hty), if_neg (by omega), hc, if_pos h]
  | true =>
    obtain ⟨hz, h12, h14, hc⟩ := cut_bytesT d s pl p v ty hd hs hp.1 hp.2 hv.1 hv.2 h0 h1
    unfold parseR
    rw [if_neg (by omega), if_pos h12, if_neg (by omega), if_neg (by omega), if_neg (by omega), hc, if_pos h]

/-- Unlike frames have unlike bytes. -/
theorem bytes_inj (f g : Fr) (hf : rightB f = true) (hg : rightB g = true) (h : bytesOf f = bytesOf g) : f = g := by
  have h1 := print_parse f hf
  have h2 := print_parse g hg
  rw [h, h2] at h1
  simpa using h1.symm

theorem bytes_sizeU (d s pl : ByteArray) (p v ty : Int) (h : rightB ⟨d, s, false, p, v, ty, pl⟩ = true) : (bytesOf ⟨d, s, false, p, v, ty, pl⟩).size = 14 + pl.size := by
  obtain ⟨hd, hs, hp, hv, h0, h1, hl⟩ := right_parts h
  obtain ⟨rfl, rfl⟩ := right_untagged h
  exact (cut_bytesU d s pl ty hd hs h0 h1).1
theorem bytes_sizeT (d s pl : ByteArray) (p v ty : Int) (h : rightB ⟨d, s, true, p, v, ty, pl⟩ = true) : (bytesOf ⟨d, s, true, p, v, ty, pl⟩).size = 18 + pl.size := by
  obtain ⟨hd, hs, hp, hv, h0, h1, hl⟩ := right_parts h
  exact (cut_bytesT d s pl p v ty hd hs hp.1 hp.2 hv.1 hv.2 h0 h1).1
theorem right_with {d s : ByteArray} {t : Bool} {p v ty : Int} {pl : ByteArray} {vl : Int} (h : rightB ⟨d, s, t, p, v, ty, pl⟩ = true) (hv : withinB vl 4094 = true) : rightB ⟨d, s, true, p, vl, ty, pl⟩ = true := by
  obtain ⟨_, _, hp, _⟩ := right_parts h
  have ht : tagB ⟨d, s, true, p, vl, ty, pl⟩ = true := by
    simp only [tagB, withinB, if_true] at hv ⊢
    simp at hv ⊢
    omega
  unfold rightB at h ⊢
  simp only [Bool.and_eq_true] at h ⊢
  exact ⟨⟨h.1.1, ht⟩, h.2⟩
end Fm
end Go.Proofs.Ytbpgaeeihfknfaa
