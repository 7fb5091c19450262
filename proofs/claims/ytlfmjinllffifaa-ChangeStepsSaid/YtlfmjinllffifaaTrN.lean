/-
  Layer 12: slices.Equal of ports; Move.
-/
import Derived.Test.YtlfmjinllffifaaTrM
import Derived.Deep.MidRow
namespace Go.Proofs.Ytlfmjinllffifaa
set_option linter.unusedVariables false
set_option linter.unusedSimpArgs false
open Go.RowKit Vm Rm Bm Im

theorem loadMidP {w : World} {g o : Nat} {p : Pt} (h : w.rangeAt g o (cellsT p).toList) : (Instr.loadAt 47 (.pointer (some ⟨g, o, none⟩))).run Try.prog w = .ok (.agg (cellsT p)) w := by
  have := run_loadAt_mid w g o 47 (cellsT p).toList _ h (Try.underlying47) rfl (by rw [cellsT_len]; exact infoSP)
  rwa [Array.toArray_toList] at this
theorem range_drawn {w : World} {g o : Nat} {cs : List Value} (h : w.rangeAt g o cs) : w.drew.rangeAt g o cs := h
def EqInv (l l' : List Pt) (n : Nat) (w : World) (v : Value) (wr : World) : Prop :=
  ∃ k : Nat, k ≤ n ∧ v = .int .i64 (k : Nat) ∧ l.take k = l'.take k ∧ Below w.heap.size w wr

set_option maxRecDepth 20000 in
set_option maxHeartbeats 2000000 in
theorem equal_w (a a' : Option Addr) (cap cap' : Nat) (l l' : List Pt) (n : Nat) (R : Bool) (w : World) (h : PRow w a l) (h' : PRow w a' l') (hn : l.length = n) (hn' : l'.length = n) (hl : n ≤ 1000) (hR : Hid (decide (l = l') = R)) :
    Calls Try.prog 21 #[.slice a n cap, .slice a' n cap'] w fun e w' => e = .returned (.bool R) ∧ Below w.heap.size w w' := by
  have HA := Lib.hid h
  have HA' := Lib.hid h'
  have HN := Lib.hid hn
  have HN' := Lib.hid hn'
  clear h h' hn hn'
  go_enter Try.func21, Try.ntmps21
  go_wp2_with fail
  go_loopw [13] (fun v wr => EqInv l l' n w v wr) (fun v _ => n - (intOf v).toNat)
  case atStart => exact ⟨0, Nat.zero_le _, rfl, rfl, Below.refl _ _⟩
  case round =>
    obtain ⟨k, hk, rfl, hno, hG⟩ := hrel
    by_cases hkl : k < n
    · obtain ⟨p, hx⟩ := at_some (l := l) (k := k) (by rw [HN.out]; exact hkl)
      obtain ⟨p', hx'⟩ := at_some (l := l') (k := k) (by rw [HN'.out]; exact hkl)
      obtain ⟨g, o, rfl, hgr, hcs⟩ := (HA.out.next hG).at_ k _ hx
      obtain ⟨g', o', rfl, hgr', hcs'⟩ := (HA'.out.next hG).at_ k _ hx'
      have HNO := Lib.hid hno
      have HX := Lib.hid hx
      have HX' := Lib.hid hx'
      have HGG := Lib.hid hG
      have hki : (k : Int) < n := by omega
      have hk0 : (0 : Int) ≤ k := by omega
      clear hno hx hG hx'
      obtain ⟨D, hD⟩ : ∃ D, decide (p = p') = D := ⟨_, rfl⟩
      have hq := run_ptNeq p p'
      rw [hD] at hq
      have HD := Lib.hid hD
      clear hD
      go_upto_region 6 with (fail)
      refine wp_region_held_drew (S := fun V => V.rangeAt g (o + k * 61) (cellsT p).toList ∧ V.rangeAt g' (o' + k * 61) (cellsT p').toList) (by kernel_rfl) ⟨range_drawn hcs, range_drawn hcs'⟩ (fun hHeld => ?_)
      try simp only [Act.put]
      refine wpAnyH_take (i := 0) (v := .slice (some ⟨g, o, none⟩) n cap) rfl (by kernel_rfl) (by kernel_rfl) (by kernel_rfl) (fun _ _ _ h => h) (yieldsIf_move (by rfl) _ rfl _ rfl) hHeld ?_
      try simp only [Act.put, List.getElem_toArray, List.getElem_cons_succ, List.getElem_cons_zero, List.setIfInBounds_toArray, List.set_cons_zero, List.set_cons_succ]
      refine wpAnyH_take (i := 1) (v := .int .i64 ((k : Nat) : Int)) rfl (by kernel_rfl) (by kernel_rfl) (by kernel_rfl) (fun _ _ _ h => h) (yieldsIf_move (by rfl) _ rfl _ rfl) hHeld ?_
      try simp only [Act.put, List.getElem_toArray, List.getElem_cons_succ, List.getElem_cons_zero, List.setIfInBounds_toArray, List.set_cons_zero, List.set_cons_succ]
      refine wpAnyH_take (i := 2) (v := .pointer (some ⟨g, o + k * 61, none⟩)) rfl (by kernel_rfl) (by kernel_rfl) (by kernel_rfl) (fun _ _ _ h => h) (Or.inl ⟨by rfl, fun V h => by go_simp⟩) hHeld ?_
      try simp only [Act.put, List.getElem_toArray, List.getElem_cons_succ, List.getElem_cons_zero, List.setIfInBounds_toArray, List.set_cons_zero, List.set_cons_succ]
      refine wpAnyH_take (i := 3) (v := .agg (cellsT p)) rfl (by kernel_rfl) (by kernel_rfl) (by kernel_rfl) (fun _ _ _ h => h) (yieldsIf_run (by rfl) 47 _ rfl ⟨g, o + k * 61, none⟩ rfl _ (fun V h => loadMidP h.1)) hHeld ?_
      try simp only [Act.put, List.getElem_toArray, List.getElem_cons_succ, List.getElem_cons_zero, List.setIfInBounds_toArray, List.set_cons_zero, List.set_cons_succ]
      refine wpAnyH_take (i := 4) (v := .slice (some ⟨g', o', none⟩) n cap') rfl (by kernel_rfl) (by kernel_rfl) (by kernel_rfl) (fun _ _ _ h => h) (yieldsIf_move (by rfl) _ rfl _ rfl) hHeld ?_
      try simp only [Act.put, List.getElem_toArray, List.getElem_cons_succ, List.getElem_cons_zero, List.setIfInBounds_toArray, List.set_cons_zero, List.set_cons_succ]
      refine wpAnyH_take (i := 5) (v := .int .i64 ((k : Nat) : Int)) rfl (by kernel_rfl) (by kernel_rfl) (by kernel_rfl) (fun _ _ _ h => h) (yieldsIf_move (by rfl) _ rfl _ rfl) hHeld ?_
      try simp only [Act.put, List.getElem_toArray, List.getElem_cons_succ, List.getElem_cons_zero, List.setIfInBounds_toArray, List.set_cons_zero, List.set_cons_succ]
      refine wpAnyH_take (i := 6) (v := .pointer (some ⟨g', o' + k * 61, none⟩)) rfl (by kernel_rfl) (by kernel_rfl) (by kernel_rfl) (fun _ _ _ h => h) (Or.inl ⟨by rfl, fun V h => by go_simp⟩) hHeld ?_
      try simp only [Act.put, List.getElem_toArray, List.getElem_cons_succ, List.getElem_cons_zero, List.setIfInBounds_toArray, List.set_cons_zero, List.set_cons_succ]
      refine wpAnyH_take (i := 7) (v := .agg (cellsT p')) rfl (by kernel_rfl) (by kernel_rfl) (by kernel_rfl) (fun _ _ _ h => h) (yieldsIf_run (by rfl) 47 _ rfl ⟨g', o' + k * 61, none⟩ rfl _ (fun V h => loadMidP h.2)) hHeld ?_
      try simp only [Act.put, List.getElem_toArray, List.getElem_cons_succ, List.getElem_cons_zero, List.setIfInBounds_toArray, List.set_cons_zero, List.set_cons_succ]
      refine wpAnyH_take (i := 8) (v := .bool (!D)) rfl (by kernel_rfl) (by kernel_rfl) (by kernel_rfl) (fun _ _ _ h => h) (Or.inl ⟨by rfl, fun V h => by have h1 := hq V; go_simp⟩) hHeld ?_
      try simp only [Act.put, List.getElem_toArray, List.getElem_cons_succ, List.getElem_cons_zero, List.setIfInBounds_toArray, List.set_cons_zero, List.set_cons_succ]
      refine wpAnyH_done (by kernel_rfl) ?_ _
      clear hHeld hq hcs hcs'
      have HU := Lib.hid HGG.out.drew
      cases D with
      | false =>
        have hy : R = false := by
          rw [← hR.out]
          refine decide_eq_false fun e => ?_
          subst e
          have h1 := HX.out.symm.trans HX'.out
          have h2 := of_decide_eq_false HD.out
          exact h2 (Option.some.inj h1)
        go_wp2
        go_ret
        exact ⟨by rw [hy]; rfl, HU.out⟩
      | true =>
        go_wp2_with fail
        refine ⟨⟨k + 1, by omega, by go_num, ?_, HU.out⟩, by simp [intOf]; omega⟩
        rw [take_nextP HX.out, take_nextP HX'.out, HNO.out, of_decide_eq_true HD.out]
    · obtain rfl : k = n := by omega
      have hy : R = true := by
        rw [← hR.out]
        rw [take_allP HN.out, take_allP HN'.out] at hno
        exact decide_eq_true hno
      go_wp2
      go_ret
      exact ⟨by rw [hy]; rfl, hG⟩
end Go.Proofs.Ytlfmjinllffifaa
