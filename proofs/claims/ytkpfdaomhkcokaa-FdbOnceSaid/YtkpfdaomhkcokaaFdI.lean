/-
  Layer 7: Learn.
-/
import Derived.Test.YtkpfdaomhkcokaaFdH
namespace Go.Proofs.Ytkpfdaomhkcokaa
set_option linter.unusedVariables false
set_option linter.unusedSimpArgs false
open Go.RowKit Go.Maps Dm

theorem IsTab.bump {w : World} {tb mb room : Nat} {t : Tb} (h : IsTab w tb mb room t) : IsTab (w.setCell ⟨tb, 2, none⟩ (.int .i64 (t.learned + 1))) tb mb room ⟨t.l, t.learned + 1⟩ := by
  refine ⟨h.blk.set _, h.map.same ?_, ⟨h.ok.sorted, h.ok.room, h.ok.each⟩, h.room1, h.room64, ?_⟩
  · exact Below.heap_setCell w ⟨tb, 2, none⟩ _ mb (fun e => h.ne e.symm)
  · have := h.n0; show 0 ≤ t.learned + 1; omega
theorem add_t {tb mb room : Nat} {t : Tb} {w : World} (h : IsTab w tb mb room t) (hn1 : t.learned ≤ 1000000) :
    Calls Try.prog 35 #[.pointer (some ⟨tb, 2, none⟩), .int .i64 1] w fun e w' => e = .returned (.int .i64 (t.learned + 1)) ∧ IsTab w' tb mb room ⟨t.l, t.learned + 1⟩ ∧ Kept2 tb mb w w' := by
  refine (add_any tb 2 t.learned w h.n0 (by omega) h.blk.cells.2.2 (h.blk.free 2)).mono ?_
  rintro e w' ⟨rfl, rfl⟩
  exact ⟨rfl, h.bump, kept2_set _ 2 _⟩
theorem roomT_learned (room : Nat) (t : Tb) : (roomT room t).1.learned = t.learned := by
  unfold roomT
  split
  · rfl
  · split <;> rfl
theorem learn_none {room : Nat} {t : Tb} {v : Int} {m : ByteArray} {p now : Int} (ha : askedR v m p now = 0) (hf : findE t.l ⟨v, m⟩ = none) :
    learnT room t v m p now = if (roomT room t).2 then (⟨putR (roomT room t).1.l ⟨v, m, p, now, false⟩, t.learned + 1⟩, 0) else (t, 0) := by
  unfold learnT roomT
  rw [if_pos ha, hf]
  by_cases h1 : t.l.length < room
  · simp only [h1, if_true]
  · simp only [h1, if_false]
    cases oldN t.l t.l.length <;> simp
theorem roomT_no {room : Nat} {t : Tb} (h : (roomT room t).2 = false) : (roomT room t).1 = t := by
  unfold roomT at h ⊢
  split at h
  · cases h
  · rename_i h1
    rw [if_neg h1]
    split at h
    · rfl
    · cases h

set_option maxHeartbeats 2000000 in
theorem learn_w (tb mb room : Nat) (t : Tb) (v : Int) (m : ByteArray) (p now : Int) (w : World) (h : IsTab w tb mb room t) (hm : m.size ≤ maxLen) (hn1 : t.learned ≤ 1000000) :
    Calls Try.prog 14 #[.pointer (some ⟨tb, 0, none⟩), .int .i64 v, .string m, .int .i64 p, .int .i64 now] w fun e w' => e = .returned (.int .i64 (learnT room t v m p now).2) ∧ IsTab w' tb mb room (learnT room t v m p now).1 ∧ Kept2 tb mb w w' := by
  have hW := wrong_any v m p now w hm
  have hlok := learn_ok h.ok v m p now
  by_cases ha : askedR v m p now = 0
  · rw [ha] at hW
    obtain ⟨hky, h6⟩ := asked_sizes ha
    have hx : En.ok ⟨v, m, p, now, false⟩ := asked_ok ha false
    obtain ⟨c0, c1, c2⟩ := h.blk.cells
    have hlt := h.blk.lt
    have hn0 := h.n0
    have hrun := h.map.look v m hky
    cases hf : findE t.l ⟨v, m⟩ with
    | some x =>
      obtain ⟨xv, xm, xp, xh, xf⟩ := x
      rw [hf] at hrun
      simp only [Option.getD, Option.isSome] at hrun
      have hb := below_box w (.cells #[.int .i64 xv, .string xm, .int .i64 xp, .int .i64 xh, .bool xf] 41)
      cases xf with
      | true =>
        have e2 : learnT room t v m p now = (t, 0) := by unfold learnT; rw [if_pos ha, hf]; rfl
        rw [e2]
        have HH := Lib.hid h
        clear h ha hf e2 hlok
        go_enter Try.func14, Try.ntmps14
        go_wp2_with (go_at_call 33; refine hW.mono ?_; rintro e w1 ⟨rfl, rfl⟩)
        go_ret
        exact ⟨rfl, HH.out.next hb, kept2_below hb⟩
      | false =>
        have e2 : learnT room t v m p now = (⟨putR t.l ⟨v, m, p, now, false⟩, if xp = p then t.learned else t.learned + 1⟩, 0) := by unfold learnT; rw [if_pos ha, hf]; rfl
        rw [e2] at hlok ⊢
        by_cases hp : xp = p
        · rw [if_pos hp] at hlok ⊢
          have hpp : (xp != p) = false := by simp [hp]
          have HP := Lib.hid (fun w' (hb : Below w.heap.size w w') => put_w tb mb room t ⟨v, m, p, now, false⟩ w' (h.next hb) hx hlok)
          subst hp
          clear h ha hf e2 hlok
          go_enter Try.func14, Try.ntmps14
          go_wp2_with (first
            | (go_at_call 33; refine hW.mono ?_; rintro e w1 ⟨rfl, rfl⟩)
            | (go_at_call 36; (with_reducible refine (HP.out _ hb).mono ?_); rintro e w3 ⟨rfl, hT3, hK3⟩))
          go_ret
          exact ⟨rfl, hT3, (kept2_below hb).trans hK3⟩
        · rw [if_neg hp] at hlok ⊢
          have hpp : (xp != p) = true := bne_iff_ne.2 hp
          have HA := Lib.hid (add_t (h.next hb) hn1)
          have HP := Lib.hid (fun w' (h2 : IsTab w' tb mb room ⟨t.l, t.learned + 1⟩) => put_w tb mb room ⟨t.l, t.learned + 1⟩ ⟨v, m, p, now, false⟩ w' h2 hx hlok)
          clear h ha hf e2 hlok
          go_enter Try.func14, Try.ntmps14
          go_wp2_with (first
            | (go_at_call 33; refine hW.mono ?_; rintro e w1 ⟨rfl, rfl⟩)
            | (go_at_call 35; (with_reducible refine HA.out.mono ?_); rintro e w2 ⟨rfl, hT2, hK2⟩)
            | (go_at_call 36; (with_reducible refine (HP.out _ hT2).mono ?_); rintro e w3 ⟨rfl, hT3, hK3⟩))
          go_ret
          exact ⟨rfl, hT3, ((kept2_below hb).trans hK2).trans hK3⟩
    | none =>
      rw [hf] at hrun
      simp only [Option.getD, Option.isSome, zeroE] at hrun
      have hb := below_box w (.cells #[.int .i64 0, .string ⟨#[]⟩, .int .i64 0, .int .i64 0, .bool false] 41)
      have e2 := learn_none (room := room) ha hf
      rw [e2] at hlok ⊢
      have HM := makeRoom_w tb mb room t _ (h.next hb)
      have hl1 := roomT_learned room t
      cases hR : (roomT room t).2 with
      | false =>
        have e3 := roomT_no hR
        rw [hR, e3] at HM
        simp only [Bool.false_eq_true, if_false]
        clear h ha hf e2 hlok
        go_enter Try.func14, Try.ntmps14
        go_wp2_with (first
          | (go_at_call 33; refine hW.mono ?_; rintro e w1 ⟨rfl, rfl⟩)
          | (go_at_call 34; (with_reducible refine HM.mono ?_); rintro e w2 ⟨rfl, hT2, hK2⟩))
        go_ret
        exact ⟨rfl, hT2, (kept2_below hb).trans hK2⟩
      | true =>
        rw [hR] at hlok HM
        simp only [if_true] at hlok ⊢
        obtain ⟨T, hT⟩ : ∃ T, (roomT room t).1 = T := ⟨_, rfl⟩
        rw [hT] at hl1 hlok HM ⊢
        have HA := Lib.hid (fun w' (h2 : IsTab w' tb mb room T) => add_t h2 (by omega))
        have HP := Lib.hid (fun w' (h2 : IsTab w' tb mb room ⟨T.l, T.learned + 1⟩) => put_w tb mb room ⟨T.l, T.learned + 1⟩ ⟨v, m, p, now, false⟩ w' h2 hx (by rw [hl1]; exact hlok))
        simp only [hl1] at HP HA
        clear h ha hf e2 hlok hT hR
        go_enter Try.func14, Try.ntmps14
        go_wp2_with (first
          | (go_at_call 33; refine hW.mono ?_; rintro e w1 ⟨rfl, rfl⟩)
          | (go_at_call 34; (with_reducible refine HM.mono ?_); rintro e w2 ⟨rfl, hT2, hK2⟩)
          | (go_at_call 35; (with_reducible refine (HA.out _ hT2).mono ?_); rintro e w3 ⟨rfl, hT3, hK3⟩)
          | (go_at_call 36; (with_reducible refine (HP.out _ hT3).mono ?_); rintro e w4 ⟨rfl, hT4, hK4⟩))
        go_ret
        exact ⟨rfl, hT4, (((kept2_below hb).trans hK2).trans hK3).trans hK4⟩
  · have e2 : learnT room t v m p now = (t, askedR v m p now) := by unfold learnT; rw [if_neg ha]
    rw [e2]
    obtain ⟨A, hA⟩ : ∃ A, askedR v m p now = A := ⟨_, rfl⟩
    rw [hA] at hW ha ⊢
    have hne : (A != 0) = true := bne_iff_ne.2 ha
    have HH := Lib.hid h
    clear h e2 hlok hA
    go_enter Try.func14, Try.ntmps14
    go_wp2_with (go_at_call 33; refine hW.mono ?_; rintro e w1 ⟨rfl, rfl⟩)
    go_ret
    exact ⟨rfl, HH.out, Kept2.refl _ _ _⟩
end Go.Proofs.Ytkpfdaomhkcokaa
