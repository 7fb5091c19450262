/-
  Layers 11 and 12: rows of ports compared: the document's Same, and the laws' Same.
-/
import Derived.Test.YtlfmjinllffifaaChA
import Derived.Test.YtlfmjinllffifaaInOf
import Derived.Deep.MidRow
namespace Go.Proofs.Ytlfmjinllffifaa
set_option linter.unusedVariables false
set_option linter.unusedSimpArgs false
open Go.RowKit Vm Rm Bm Im

set_option maxRecDepth 20000 in
set_option maxHeartbeats 4000000 in
theorem rsame_w (a a' : Option Addr) (cap cap' : Nat) (l l' : List Pt) (n : Nat) (R : Bool) (w : World) (h : PRow w a l) (h' : PRow w a' l') (hn : l.length = n) (hn' : l'.length = n) (hl : n ≤ 1000) (hR : Hid (decide (l = l') = R)) :
    Calls Try.prog 22 #[.slice a n cap, .slice a' n cap'] w fun e w' => e = .returned (.bool R) ∧ Below w.heap.size w w' := by
  have HA := Lib.hid h
  have HA' := Lib.hid h'
  have HN := Lib.hid hn
  have HN' := Lib.hid hn'
  clear h h' hn hn'
  go_enter Try.func22, Try.ntmps22
  go_wp2_with fail
  go_loopw [5] (fun v wr => EqInv l l' n w v wr) (fun v _ => n - (intOf v).toNat)
  case atStart => exact ⟨0, Nat.zero_le _, rfl, rfl, Below.refl _ _⟩
  case round =>
    obtain ⟨k, hk, rfl, hno, hG⟩ := hrel
    by_cases hkl : k < n
    · obtain ⟨p, hx⟩ := at_some (l := l) (k := k) (by rw [HN.out]; exact hkl)
      obtain ⟨p', hx'⟩ := at_some (l := l') (k := k) (by rw [HN'.out]; exact hkl)
      obtain ⟨g, o, rfl, hgr, hcs⟩ := (HA.out.next hG).at_ k _ hx
      obtain ⟨g', o', rfl, hgr', hcs'⟩ := (HA'.out.next hG).at_ k _ hx'
      have HNO := Lib.hid hno
      have HX := Lib.hid hx
      have HX' := Lib.hid hx'
      have HGG := Lib.hid hG
      have hki : (k : Int) < n := by omega
      have hk0 : (0 : Int) ≤ k := by omega
      clear hno hx hG hx'
      obtain ⟨D, hD⟩ : ∃ D, decide (p = p') = D := ⟨_, rfl⟩
      have hq := run_ptNeqR p p'
      rw [hD] at hq
      have HD := Lib.hid hD
      clear hD
      go_upto_region 6 with (fail)
      refine wp_region_held_drew (S := fun V => V.rangeAt g (o + k * 61) (cellsT p).toList ∧ V.rangeAt g' (o' + k * 61) (cellsT p').toList) (by kernel_rfl) ⟨range_drawn hcs, range_drawn hcs'⟩ (fun hHeld => ?_)
      try simp only [Act.put]
      refine wpAnyH_take (i := 0) (v := .slice (some ⟨g, o, none⟩) n cap) rfl (by kernel_rfl) (by kernel_rfl) (by kernel_rfl) (fun _ _ _ h => h) (yieldsIf_move (by rfl) _ rfl _ rfl) hHeld ?_
      try simp only [Act.put, List.getElem_toArray, List.getElem_cons_succ, List.getElem_cons_zero, List.setIfInBounds_toArray, List.set_cons_zero, List.set_cons_succ]
      refine wpAnyH_take (i := 1) (v := .int .i64 ((k : Nat) : Int)) rfl (by kernel_rfl) (by kernel_rfl) (by kernel_rfl) (fun _ _ _ h => h) (yieldsIf_move (by rfl) _ rfl _ rfl) hHeld ?_
      try simp only [Act.put, List.getElem_toArray, List.getElem_cons_succ, List.getElem_cons_zero, List.setIfInBounds_toArray, List.set_cons_zero, List.set_cons_succ]
      refine wpAnyH_take (i := 2) (v := .pointer (some ⟨g, o + k * 61, none⟩)) rfl (by kernel_rfl) (by kernel_rfl) (by kernel_rfl) (fun _ _ _ h => h) (Or.inl ⟨by rfl, fun V h => by go_simp⟩) hHeld ?_
      try simp only [Act.put, List.getElem_toArray, List.getElem_cons_succ, List.getElem_cons_zero, List.setIfInBounds_toArray, List.set_cons_zero, List.set_cons_succ]
      refine wpAnyH_take (i := 3) (v := .agg (cellsT p)) rfl (by kernel_rfl) (by kernel_rfl) (by kernel_rfl) (fun _ _ _ h => h) (yieldsIf_run (by rfl) 54 _ rfl ⟨g, o + k * 61, none⟩ rfl _ (fun V h => loadMidR h.1)) hHeld ?_
      try simp only [Act.put, List.getElem_toArray, List.getElem_cons_succ, List.getElem_cons_zero, List.setIfInBounds_toArray, List.set_cons_zero, List.set_cons_succ]
      refine wpAnyH_take (i := 4) (v := .slice (some ⟨g', o', none⟩) n cap') rfl (by kernel_rfl) (by kernel_rfl) (by kernel_rfl) (fun _ _ _ h => h) (yieldsIf_move (by rfl) _ rfl _ rfl) hHeld ?_
      try simp only [Act.put, List.getElem_toArray, List.getElem_cons_succ, List.getElem_cons_zero, List.setIfInBounds_toArray, List.set_cons_zero, List.set_cons_succ]
      refine wpAnyH_take (i := 5) (v := .int .i64 ((k : Nat) : Int)) rfl (by kernel_rfl) (by kernel_rfl) (by kernel_rfl) (fun _ _ _ h => h) (yieldsIf_move (by rfl) _ rfl _ rfl) hHeld ?_
      try simp only [Act.put, List.getElem_toArray, List.getElem_cons_succ, List.getElem_cons_zero, List.setIfInBounds_toArray, List.set_cons_zero, List.set_cons_succ]
      refine wpAnyH_take (i := 6) (v := .pointer (some ⟨g', o' + k * 61, none⟩)) rfl (by kernel_rfl) (by kernel_rfl) (by kernel_rfl) (fun _ _ _ h => h) (Or.inl ⟨by rfl, fun V h => by go_simp⟩) hHeld ?_
      try simp only [Act.put, List.getElem_toArray, List.getElem_cons_succ, List.getElem_cons_zero, List.setIfInBounds_toArray, List.set_cons_zero, List.set_cons_succ]
      refine wpAnyH_take (i := 7) (v := .agg (cellsT p')) rfl (by kernel_rfl) (by kernel_rfl) (by kernel_rfl) (fun _ _ _ h => h) (yieldsIf_run (by rfl) 54 _ rfl ⟨g', o' + k * 61, none⟩ rfl _ (fun V h => loadMidR h.2)) hHeld ?_
      try simp only [Act.put, List.getElem_toArray, List.getElem_cons_succ, List.getElem_cons_zero, List.setIfInBounds_toArray, List.set_cons_zero, List.set_cons_succ]
      refine wpAnyH_take (i := 8) (v := .bool (!D)) rfl (by kernel_rfl) (by kernel_rfl) (by kernel_rfl) (fun _ _ _ h => h) (Or.inl ⟨by rfl, fun V h => by have h1 := hq V; go_simp⟩) hHeld ?_
      try simp only [Act.put, List.getElem_toArray, List.getElem_cons_succ, List.getElem_cons_zero, List.setIfInBounds_toArray, List.set_cons_zero, List.set_cons_succ]
      refine wpAnyH_done (by kernel_rfl) ?_ _
      clear hHeld hq hcs hcs'
      have HU := Lib.hid HGG.out.drew
      cases D with
      | false =>
        have hy : R = false := by
          rw [← hR.out]
          refine decide_eq_false fun e => ?_
          subst e
          have h1 := HX.out.symm.trans HX'.out
          have h2 := of_decide_eq_false HD.out
          exact h2 (Option.some.inj h1)
        go_wp2
        go_ret
        exact ⟨by rw [hy]; rfl, HU.out⟩
      | true =>
        go_wp2_with fail
        refine ⟨⟨k + 1, by omega, by go_num, ?_, HU.out⟩, by simp [intOf]; omega⟩
        rw [take_nextP HX.out, take_nextP HX'.out, HNO.out, of_decide_eq_true HD.out]
    · obtain rfl : k = n := by omega
      have hy : R = true := by
        rw [← hR.out]
        rw [take_allP HN.out, take_allP HN'.out] at hno
        exact decide_eq_true hno
      go_wp2
      go_ret
      exact ⟨by rw [hy]; rfl, hG⟩

set_option maxRecDepth 20000 in
set_option maxHeartbeats 4000000 in
theorem lsame_w (a a' : Option Addr) (cap cap' : Nat) (l l' : List Pt) (n : Nat) (R : Bool) (w : World) (h : PRow w a l) (h' : PRow w a' l') (hn : l.length = n) (hn' : l'.length = n) (hl : n ≤ 1000) (hR : Hid (decide (l = l') = R)) :
    Calls Try.prog 11 #[.slice a n cap, .slice a' n cap'] w fun e w' => e = .returned (.bool R) ∧ Below w.heap.size w w' := by
  have HA := Lib.hid h
  have HA' := Lib.hid h'
  have HN := Lib.hid hn
  have HN' := Lib.hid hn'
  clear h h' hn hn'
  go_enter Try.func11, Try.ntmps11
  go_wp2_with fail
  go_loopw [5] (fun v wr => EqInv l l' n w v wr) (fun v _ => n - (intOf v).toNat)
  case atStart => exact ⟨0, Nat.zero_le _, rfl, rfl, Below.refl _ _⟩
  case round =>
    obtain ⟨k, hk, rfl, hno, hG⟩ := hrel
    by_cases hkl : k < n
    · obtain ⟨p, hx⟩ := at_some (l := l) (k := k) (by rw [HN.out]; exact hkl)
      obtain ⟨p', hx'⟩ := at_some (l := l') (k := k) (by rw [HN'.out]; exact hkl)
      obtain ⟨g, o, rfl, hgr, hcs⟩ := (HA.out.next hG).at_ k _ hx
      obtain ⟨g', o', rfl, hgr', hcs'⟩ := (HA'.out.next hG).at_ k _ hx'
      have HNO := Lib.hid hno
      have HX := Lib.hid hx
      have HX' := Lib.hid hx'
      have HGG := Lib.hid hG
      have hki : (k : Int) < n := by omega
      have hk0 : (0 : Int) ≤ k := by omega
      clear hno hx hG hx'
      obtain ⟨D, hD⟩ : ∃ D, decide (p = p') = D := ⟨_, rfl⟩
      have hq := run_ptNeqR p p'
      rw [hD] at hq
      have HD := Lib.hid hD
      clear hD
      have CF := Lib.hid (fun w' => of11_w p w')
      go_upto_region 6 with (fail)
      refine wp_region_held_drew (S := fun V => V.rangeAt g (o + k * 61) (cellsT p).toList ∧ V.rangeAt g' (o' + k * 61) (cellsT p').toList) (by kernel_rfl) ⟨range_drawn hcs, range_drawn hcs'⟩ (fun hHeld => ?_)
      try simp only [Act.put]
      refine wpAnyH_take (i := 0) (v := .slice (some ⟨g, o, none⟩) n cap) rfl (by kernel_rfl) (by kernel_rfl) (by kernel_rfl) (fun _ _ _ h => h) (yieldsIf_move (by rfl) _ rfl _ rfl) hHeld ?_
      try simp only [Act.put, List.getElem_toArray, List.getElem_cons_succ, List.getElem_cons_zero, List.setIfInBounds_toArray, List.set_cons_zero, List.set_cons_succ]
      refine wpAnyH_take (i := 1) (v := .int .i64 ((k : Nat) : Int)) rfl (by kernel_rfl) (by kernel_rfl) (by kernel_rfl) (fun _ _ _ h => h) (yieldsIf_move (by rfl) _ rfl _ rfl) hHeld ?_
      try simp only [Act.put, List.getElem_toArray, List.getElem_cons_succ, List.getElem_cons_zero, List.setIfInBounds_toArray, List.set_cons_zero, List.set_cons_succ]
      refine wpAnyH_take (i := 2) (v := .pointer (some ⟨g, o + k * 61, none⟩)) rfl (by kernel_rfl) (by kernel_rfl) (by kernel_rfl) (fun _ _ _ h => h) (Or.inl ⟨by rfl, fun V h => by go_simp⟩) hHeld ?_
      try simp only [Act.put, List.getElem_toArray, List.getElem_cons_succ, List.getElem_cons_zero, List.setIfInBounds_toArray, List.set_cons_zero, List.set_cons_succ]
      refine wpAnyH_take (i := 3) (v := .agg (cellsT p)) rfl (by kernel_rfl) (by kernel_rfl) (by kernel_rfl) (fun _ _ _ h => h) (yieldsIf_run (by rfl) 47 _ rfl ⟨g, o + k * 61, none⟩ rfl _ (fun V h => loadMidP h.1)) hHeld ?_
      try simp only [Act.put, List.getElem_toArray, List.getElem_cons_succ, List.getElem_cons_zero, List.setIfInBounds_toArray, List.set_cons_zero, List.set_cons_succ]
      refine wpAnyH_take (i := 5) (v := .slice (some ⟨g', o', none⟩) n cap') rfl (by kernel_rfl) (by kernel_rfl) (by kernel_rfl) (fun _ _ _ h => h) (yieldsIf_move (by rfl) _ rfl _ rfl) hHeld ?_
      try simp only [Act.put, List.getElem_toArray, List.getElem_cons_succ, List.getElem_cons_zero, List.setIfInBounds_toArray, List.set_cons_zero, List.set_cons_succ]
      refine wpAnyH_take (i := 6) (v := .int .i64 ((k : Nat) : Int)) rfl (by kernel_rfl) (by kernel_rfl) (by kernel_rfl) (fun _ _ _ h => h) (yieldsIf_move (by rfl) _ rfl _ rfl) hHeld ?_
      try simp only [Act.put, List.getElem_toArray, List.getElem_cons_succ, List.getElem_cons_zero, List.setIfInBounds_toArray, List.set_cons_zero, List.set_cons_succ]
      refine wpAnyH_take (i := 7) (v := .pointer (some ⟨g', o' + k * 61, none⟩)) rfl (by kernel_rfl) (by kernel_rfl) (by kernel_rfl) (fun _ _ _ h => h) (Or.inl ⟨by rfl, fun V h => by go_simp⟩) hHeld ?_
      try simp only [Act.put, List.getElem_toArray, List.getElem_cons_succ, List.getElem_cons_zero, List.setIfInBounds_toArray, List.set_cons_zero, List.set_cons_succ]
      refine wpAnyH_take (i := 8) (v := .agg (cellsT p')) rfl (by kernel_rfl) (by kernel_rfl) (by kernel_rfl) (fun _ _ _ h => h) (yieldsIf_run (by rfl) 54 _ rfl ⟨g', o' + k * 61, none⟩ rfl _ (fun V h => loadMidR h.2)) hHeld ?_
      try simp only [Act.put, List.getElem_toArray, List.getElem_cons_succ, List.getElem_cons_zero, List.setIfInBounds_toArray, List.set_cons_zero, List.set_cons_succ]
      refine wpAnyH_ready (rs := [4]) (by kernel_rfl) (by simp) ?_
      refine AllReadyH.cons rfl (fun K hK => ?_) AllReadyH.nil
      go_simp
      (with_reducible refine (CF.out _).mono ?_)
      rintro e z1 ⟨rfl, hz1⟩
      have x1 := range_next (range_drawn hcs) (show g < wr.drew.heap.size from hgr) hz1
      have x2 := range_next (range_drawn hcs') (show g' < wr.drew.heap.size from hgr') hz1
      have HU := Lib.hid (bw_trans HGG.out.drew hz1)
      clear hHeld hz1
      go_simp
      refine hK.out _ _ ⟨x1, x2⟩ (fun hHeld => ?_)
      clear hK
      try simp only [Act.put, List.getElem_toArray, List.getElem_cons_succ, List.getElem_cons_zero, List.setIfInBounds_toArray, List.set_cons_zero, List.set_cons_succ]
      refine wpAnyH_take (i := 9) (v := .bool (!D)) rfl (by kernel_rfl) (by kernel_rfl) (by kernel_rfl) (fun _ _ _ h => h) (Or.inl ⟨by rfl, fun V h => by have h1 := hq V; go_simp⟩) hHeld ?_
      try simp only [Act.put, List.getElem_toArray, List.getElem_cons_succ, List.getElem_cons_zero, List.setIfInBounds_toArray, List.set_cons_zero, List.set_cons_succ]
      refine wpAnyH_done (by kernel_rfl) ?_ _
      clear hHeld hq hcs hcs' x1 x2
      cases D with
      | false =>
        have hy : R = false := by
          rw [← hR.out]
          refine decide_eq_false fun e => ?_
          subst e
          have h1 := HX.out.symm.trans HX'.out
          have h2 := of_decide_eq_false HD.out
          exact h2 (Option.some.inj h1)
        go_wp2
        go_ret
        exact ⟨by rw [hy]; rfl, HU.out⟩
      | true =>
        go_wp2_with fail
        refine ⟨⟨k + 1, by omega, by go_num, ?_, HU.out⟩, by simp [intOf]; omega⟩
        rw [take_nextP HX.out, take_nextP HX'.out, HNO.out, of_decide_eq_true HD.out]
    · obtain rfl : k = n := by omega
      have hy : R = true := by
        rw [← hR.out]
        rw [take_allP HN.out, take_allP HN'.out] at hno
        exact decide_eq_true hno
      go_wp2
      go_ret
      exact ⟨by rw [hy]; rfl, hG⟩
end Go.Proofs.Ytlfmjinllffifaa
