/-
  Plain mathematics of BpduBack: what was printed is heard; cut off it ends too early; what is heard is right and comes back; unlike BPDUs have unlike bytes.
-/
import Derived.Test.YtaifkepojfhgkaaDoorBpMath
namespace Go.Proofs.YtaifkepojfhgkaaDoor
set_option linter.unusedVariables false
set_option linter.unusedSimpArgs false
namespace Bm
open Go.RowKit

theorem app_assoc' (a b c : ByteArray) : a ++ b ++ c = a ++ (b ++ c) := ByteArray.append_assoc
theorem nums_len (x : Bp) : (numsOf x).size = 31 := by
  simp only [numsOf, ByteArray.size_append, be_size]

/-- The parts of a right BPDU that isn't a notice. -/
structure Parts (x : Bp) : Prop where
  fl : 0 ≤ x.flags ∧ x.flags ≤ 255
  ro : u64B x.root
  co : 0 ≤ x.cost ∧ x.cost ≤ 4294967295
  br : u64B x.bridge
  po : 0 ≤ x.port ∧ x.port ≤ 65535
  ag : 0 ≤ x.age ∧ x.age ≤ 65535
  ma : 0 ≤ x.max ∧ x.max ≤ 65535
  he : 0 ≤ x.hello ∧ x.hello ≤ 65535
  de : 0 ≤ x.delay ∧ x.delay ≤ 65535

theorem right_cases {x : Bp} (hr : rightB x = true) (hok : x.ok) : x = notice ∨ ((x.kind = 1 ∨ x.kind = 3) ∧ Parts x) := by
  unfold rightB at hr
  by_cases h2 : x.kind = 2
  · rw [if_pos h2, bpEq_true] at hr
    exact Or.inl hr
  · rw [if_neg h2] at hr
    by_cases h13 : x.kind = 1 ∨ x.kind = 3
    · rw [if_pos h13] at hr
      simp only [numsB, withinB, Bool.and_eq_true, decide_eq_true_eq] at hr
      obtain ⟨hf, hc, hp, ha, hm, hh, hd⟩ := hr
      obtain ⟨u1, u2, u3, u4⟩ := hok
      exact Or.inr ⟨h13, ⟨hf, u1, ⟨u2.1, hc⟩, u3, ⟨u4.1, hp⟩, ha, hm, hh, hd⟩⟩
    · rw [if_neg h13] at hr
      cases hr
theorem right_of {x : Bp} (hk : x.kind = 1 ∨ x.kind = 3) (h : Parts x) : rightB x = true := by
  unfold rightB
  rw [if_neg (by omega), if_pos hk]
  simp only [numsB, withinB, Bool.and_eq_true, decide_eq_true_eq]
  exact ⟨h.fl, h.co.2, h.po.2, h.ag, h.ma, h.he, h.de⟩

/-- The numbers, as they stand behind four bytes, whatever stands behind them. -/
theorem heard_nums (q : ByteArray) (x : Bp) (more : ByteArray) (hq : q.size = 4) (h : Parts x) : heardAt x.kind (q ++ (numsOf x ++ more)) 4 = x := by
  obtain ⟨k, f, r, c, b, p, a, m, e, d⟩ := x
  obtain ⟨hf, hr, hc, hb, hp, ha, hm, he, hd⟩ := h
  unfold u64B at hr hb
  simp only at hf hr hc hb hp ha hm he hd
  unfold numsOf heardAt
  simp only [app_assoc', Bp.mk.injEq, true_and]
  refine ⟨?_, ?_, ?_, ?_, ?_, ?_, ?_, ?_, ?_⟩
  · rw [num_field q _ f.toNat 1 4 (by omega) (by omega)]; omega
  · rw [← app_assoc' q, num_field (q ++ be f.toNat 1) _ r.toNat 8 _ (by simp [be_size, hq]) (by omega)]; omega
  · rw [← app_assoc' q, ← app_assoc' (q ++ _), num_field (q ++ be f.toNat 1 ++ be r.toNat 8) _ c.toNat 4 _ (by simp [be_size, hq]) (by omega)]; omega
  · rw [← app_assoc' q, ← app_assoc' (q ++ _), ← app_assoc' (q ++ _ ++ _), num_field (q ++ be f.toNat 1 ++ be r.toNat 8 ++ be c.toNat 4) _ b.toNat 8 _ (by simp [be_size, hq]) (by omega)]; omega
  · rw [← app_assoc' q, ← app_assoc' (q ++ _), ← app_assoc' (q ++ _ ++ _), ← app_assoc' (q ++ _ ++ _ ++ _), num_field (q ++ be f.toNat 1 ++ be r.toNat 8 ++ be c.toNat 4 ++ be b.toNat 8) _ p.toNat 2 _ (by simp [be_size, hq]) (by omega)]; omega
  · rw [← app_assoc' q, ← app_assoc' (q ++ _), ← app_assoc' (q ++ _ ++ _), ← app_assoc' (q ++ _ ++ _ ++ _), ← app_assoc' (q ++ _ ++ _ ++ _ ++ _), num_field (q ++ be f.toNat 1 ++ be r.toNat 8 ++ be c.toNat 4 ++ be b.toNat 8 ++ be p.toNat 2) _ a.toNat 2 _ (by simp [be_size, hq]) (by omega)]; omega
  · rw [← app_assoc' q, ← app_assoc' (q ++ _), ← app_assoc' (q ++ _ ++ _), ← app_assoc' (q ++ _ ++ _ ++ _), ← app_assoc' (q ++ _ ++ _ ++ _ ++ _), ← app_assoc' (q ++ _ ++ _ ++ _ ++ _ ++ _), num_field (q ++ be f.toNat 1 ++ be r.toNat 8 ++ be c.toNat 4 ++ be b.toNat 8 ++ be p.toNat 2 ++ be a.toNat 2) _ m.toNat 2 _ (by simp [be_size, hq]) (by omega)]; omega
  · rw [← app_assoc' q, ← app_assoc' (q ++ _), ← app_assoc' (q ++ _ ++ _), ← app_assoc' (q ++ _ ++ _ ++ _), ← app_assoc' (q ++ _ ++ _ ++ _ ++ _), ← app_assoc' (q ++ _ ++ _ ++ _ ++ _ ++ _), ← app_assoc' (q ++ _ ++ _ ++ _ ++ _ ++ _ ++ _), num_field (q ++ be f.toNat 1 ++ be r.toNat 8 ++ be c.toNat 4 ++ be b.toNat 8 ++ be p.toNat 2 ++ be a.toNat 2 ++ be m.toNat 2) _ e.toNat 2 _ (by simp [be_size, hq]) (by omega)]; omega
  · rw [← app_assoc' q, ← app_assoc' (q ++ _), ← app_assoc' (q ++ _ ++ _), ← app_assoc' (q ++ _ ++ _ ++ _), ← app_assoc' (q ++ _ ++ _ ++ _ ++ _), ← app_assoc' (q ++ _ ++ _ ++ _ ++ _ ++ _), ← app_assoc' (q ++ _ ++ _ ++ _ ++ _ ++ _ ++ _), ← app_assoc' (q ++ _ ++ _ ++ _ ++ _ ++ _ ++ _ ++ _), num_field (q ++ be f.toNat 1 ++ be r.toNat 8 ++ be c.toNat 4 ++ be b.toNat 8 ++ be p.toNat 2 ++ be a.toNat 2 ++ be m.toNat 2 ++ be e.toNat 2) _ d.toNat 2 _ (by simp [be_size, hq]) (by omega)]; omega

theorem bytes_form (x : Bp) (h : x.kind = 1 ∨ x.kind = 3) (more : ByteArray) : bytesOf x ++ more = headOf x.kind ++ (numsOf x ++ (tailOf x.kind ++ more)) := by
  unfold bytesOf
  rw [if_neg (by omega)]
  simp only [app_assoc']
theorem head_size (k : Int) : (headOf k).size = 4 := by
  unfold headOf; repeat' split
  all_goals rfl
theorem bytes_size (x : Bp) (h : rightB x = true) : (bytesOf x).size = sizeN x.kind := by
  unfold rightB at h
  by_cases h2 : x.kind = 2
  · simp [bytesOf, h2, headOf, sizeN]; rfl
  · rw [if_neg h2] at h
    by_cases h13 : x.kind = 1 ∨ x.kind = 3
    · unfold bytesOf
      rw [if_neg h2, ByteArray.size_append, ByteArray.size_append, head_size, nums_len]
      rcases h13 with h1 | h1 <;> simp [h1, tailOf, sizeN] <;> rfl
    · rw [if_neg h13] at h; cases h
theorem size_pos {x : Bp} (h : rightB x = true) : 0 < sizeN x.kind := by
  unfold rightB at h
  unfold sizeN
  repeat' split
  all_goals first | omega | skip
  exfalso
  rw [if_neg (by assumption), if_neg (by omega)] at h
  cases h
/-- The kind that a head tells, whatever stands behind it. -/
theorem kind_head (k : Int) (hk : k = 1 ∨ k = 2 ∨ k = 3) (more : ByteArray) : kindR (headOf k ++ more) = (k, 0) := by
  have hs : (headOf k ++ more).size = 4 + more.size := by rw [ByteArray.size_append, head_size]
  have b : ∀ i, i < 4 → byteN (headOf k ++ more) i = byteN (headOf k) i := fun i hi => byteN_left (by rw [head_size]; exact hi)
  unfold kindR
  rw [if_neg (by omega), b 0 (by omega), b 1 (by omega), b 2 (by omega), b 3 (by omega)]
  rcases hk with rfl | rfl | rfl <;> decide

/-- What was printed is heard, whatever stands behind it, but a configuration that is too old. -/
theorem back_parse (x : Bp) (hr : rightB x = true) (hok : x.ok) (more : ByteArray) : parseR (bytesOf x ++ more) = if x.kind = 1 ∧ x.max ≤ x.age then (zero, 1) else (x, 0) := by
  have hsz := bytes_size x hr
  have hge : ¬ (bytesOf x ++ more).size < sizeN x.kind := by rw [ByteArray.size_append]; omega
  rcases right_cases hr hok with rfl | ⟨hk, hp⟩
  · have e : bytesOf notice = headOf 2 := rfl
    unfold parseR
    rw [e, kind_head 2 (by omega) more]
    rw [if_neg (by decide)]
    show bodyR 2 (headOf 2 ++ more) = _
    unfold bodyR
    rw [if_neg (show ¬ (headOf 2 ++ more).size < sizeN 2 from hge)]
    simp [notice]
  · have hkind := kind_head x.kind (by omega) (numsOf x ++ (tailOf x.kind ++ more))
    have hh := heard_nums (headOf x.kind) x (tailOf x.kind ++ more) (head_size _) hp
    unfold parseR
    rw [bytes_form x hk, hkind] 
    rw [bytes_form x hk] at hge
    rw [if_neg (by simp)]
    show bodyR x.kind _ = _
    unfold bodyR
    rw [if_neg hge, if_neg (by omega), hh]

theorem byteN_cut (s : ByteArray) (c i : Nat) (h : i < c) (hc : c ≤ s.size) : byteN (s.extract 0 c) i = byteN s i := by
  unfold byteN
  have h' : i < s.data.size := by show i < s.size; omega
  have h2 : i < min c s.size := by omega
  simp [Array.getElem?_extract, h2, Array.getElem?_eq_getElem h']
/-- Cut off it ends too early. -/
theorem cut_short (x : Bp) (hr : rightB x = true) (hok : x.ok) (c : Nat) (hc : c < (bytesOf x).size) : parseR ((bytesOf x).extract 0 c) = (zero, 3) := by
  have hsz := bytes_size x hr
  have hes : ((bytesOf x).extract 0 c).size = c := by rw [ByteArray.size_extract]; omega
  by_cases h4 : c < 4
  · have hk : kindR ((bytesOf x).extract 0 c) = (0, 3) := by
      unfold kindR
      rw [if_pos (by omega)]
    unfold parseR
    rw [hk]
    rfl
  · have hk : x.kind = 1 ∨ x.kind = 3 := by
      rcases right_cases hr hok with rfl | ⟨hk, _⟩
      · exfalso; have : (bytesOf notice).size = 4 := rfl
        omega
      · exact hk
    have hb : ∀ i, i < 4 → byteN ((bytesOf x).extract 0 c) i = byteN (headOf x.kind) i := by
      intro i hi
      rw [byteN_cut _ c i (by omega) (by omega)]
      have e := bytes_form x hk ⟨#[]⟩
      have e2 : bytesOf x ++ ⟨#[]⟩ = bytesOf x := ByteArray.append_empty
      rw [← e2, e]
      exact byteN_left (by rw [head_size]; exact hi)
    have hkind : kindR ((bytesOf x).extract 0 c) = (x.kind, 0) := by
      unfold kindR
      rw [if_neg (by omega), hb 0 (by omega), hb 1 (by omega), hb 2 (by omega), hb 3 (by omega)]
      rcases hk with h | h <;> rw [h] <;> decide
    unfold parseR
    rw [hkind, if_neg (by simp)]
    show bodyR x.kind _ = _
    unfold bodyR
    rw [if_pos (by omega)]

/-- What is heard has its parts. -/
theorem heard_parts (k : Int) (s : ByteArray) (a : Nat) : Parts (heardAt k s a) := by
  have b1 := num_lt s a 1
  have b2 := num_lt s (a + 1) 8
  have b3 := num_lt s (a + 9) 4
  have b4 := num_lt s (a + 13) 8
  have b5 := num_lt s (a + 21) 2
  have b6 := num_lt s (a + 23) 2
  have b7 := num_lt s (a + 25) 2
  have b8 := num_lt s (a + 27) 2
  have b9 := num_lt s (a + 29) 2
  constructor <;> simp only [heardAt, u64B] <;> omega
theorem Parts.ok {x : Bp} (h : Parts x) : x.ok := ⟨h.ro, ⟨h.co.1, by have := h.co.2; omega⟩, h.br, ⟨h.po.1, by have := h.po.2; omega⟩⟩

/-- What is heard is right, and of 64 bits, and no configuration that is too old. -/
theorem heard_right {s : ByteArray} {x : Bp} (h : parseR s = (x, 0)) : rightB x = true ∧ x.ok ∧ ¬ (x.kind = 1 ∧ x.max ≤ x.age) := by
  unfold parseR at h
  rcases kind_cases s with ⟨h0, he⟩ | ⟨he, h4, hk⟩
  · rw [if_pos (by omega)] at h
    have := congrArg Prod.snd h
    simp only at this
    omega
  · rw [if_neg (by omega)] at h
    generalize (kindR s).1 = K at h hk
    unfold bodyR at h
    by_cases hs : s.size < sizeN K
    · rw [if_pos hs] at h
      have := congrArg Prod.snd h
      simp at this
    · rw [if_neg hs] at h
      by_cases h2 : K = 2
      · rw [if_pos h2] at h
        obtain rfl : notice = x := congrArg Prod.fst h
        exact ⟨by decide, by simp [Bp.ok, u64B, notice], by simp [notice]⟩
      · rw [if_neg h2] at h
        by_cases ho : K = 1 ∧ (heardAt K s 4).max ≤ (heardAt K s 4).age
        · rw [if_pos ho] at h
          have := congrArg Prod.snd h
          simp at this
        · rw [if_neg ho] at h
          obtain rfl : heardAt K s 4 = x := congrArg Prod.fst h
          exact ⟨right_of (show K = 1 ∨ K = 3 by omega) (heard_parts K s 4), (heard_parts K s 4).ok, ho⟩
theorem back_again {x : Bp} (hr : rightB x = true) (hok : x.ok) (ho : ¬ (x.kind = 1 ∧ x.max ≤ x.age)) : parseR (bytesOf x) = (x, 0) := by
  have h := back_parse x hr hok ⟨#[]⟩
  rw [if_neg ho, show bytesOf x ++ (⟨#[]⟩ : ByteArray) = bytesOf x from ByteArray.append_empty] at h
  exact h

/-- Unlike BPDUs have unlike bytes. -/
theorem bytes_inj {x y : Bp} (hx : rightB x = true) (hy : rightB y = true) (ox : x.ok) (oy : y.ok) (h : bytesOf x = bytesOf y) : x = y := by
  have kx : kindR (bytesOf x) = (x.kind, 0) := by
    rcases right_cases hx ox with rfl | ⟨hk, _⟩
    · decide
    · have e := bytes_form x hk ⟨#[]⟩
      rw [show bytesOf x ++ (⟨#[]⟩ : ByteArray) = bytesOf x from ByteArray.append_empty] at e
      rw [e]; exact kind_head x.kind (by omega) _
  have ky : kindR (bytesOf y) = (y.kind, 0) := by
    rcases right_cases hy oy with rfl | ⟨hk, _⟩
    · decide
    · have e := bytes_form y hk ⟨#[]⟩
      rw [show bytesOf y ++ (⟨#[]⟩ : ByteArray) = bytesOf y from ByteArray.append_empty] at e
      rw [e]; exact kind_head y.kind (by omega) _
  rw [h] at kx
  have ek : x.kind = y.kind := by have := congrArg Prod.fst (kx.symm.trans ky); exact this
  rcases right_cases hx ox with rfl | ⟨hkx, px⟩
  · rcases right_cases hy oy with rfl | ⟨hky, py⟩
    · rfl
    · exfalso; rw [← ek] at hky; simp [notice] at hky
  · rcases right_cases hy oy with rfl | ⟨hky, py⟩
    · exfalso; rw [ek] at hkx; simp [notice] at hkx
    · have hx' := heard_nums (headOf x.kind) x (tailOf x.kind ++ ⟨#[]⟩) (head_size _) px
      have hy' := heard_nums (headOf y.kind) y (tailOf y.kind ++ ⟨#[]⟩) (head_size _) py
      rw [← bytes_form x hkx, h, ek] at hx'
      rw [← bytes_form y hky] at hy'
      exact hx'.symm.trans hy'
theorem bytes_ext {a b : ByteArray} (h : a.data.toList = b.data.toList) : a = b := by
  obtain ⟨a⟩ := a
  obtain ⟨b⟩ := b
  congr 1
  exact Array.toList_inj.1 h
theorem list_eq' {a b : ByteArray} (h : a.toList = b.toList) : a = b := by
  rw [ByteArray.toList_eq, ByteArray.toList_eq] at h
  exact bytes_ext h
theorem bytes_same (x y : Bp) (hx : rightB x = true) (hy : rightB y = true) (ox : x.ok) (oy : y.ok) : ((bytesOf x).toList == (bytesOf y).toList) = bpEq x y := by
  rw [Bool.eq_iff_iff, bpEq_true, beq_iff_eq]
  constructor
  · intro h; exact bytes_inj hx hy ox oy (list_eq' h)
  · rintro rfl; rfl
end Bm
end Go.Proofs.YtaifkepojfhgkaaDoor
