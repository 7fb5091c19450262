/-
  The laws of layer 8: awake.
-/
import Derived.Test.YtkakjkdjjapiaaaRoS
import Derived.Test.YtkakjkdjjapiaaaRoK
namespace Go.Proofs.Ytkakjkdjjapiaaa
set_option linter.unusedVariables false
set_option linter.unusedSimpArgs false
open Go.RowKit Vm Rm

abbrev four : List Inf := [⟨1, 4, 3, ⟨1, 0, 2, 1⟩⟩, ⟨2, 4, 3, ⟨1, 0, 2, 2⟩⟩, ⟨3, 0, 2, ⟨0, 0, 0, 0⟩⟩, ⟨4, 0, 0, ⟨0, 0, 0, 0⟩⟩]
abbrev fourCells : Array Value := #[.int .u64 1, .int .u64 4, .int .i64 3, .int .u64 1, .int .u64 0, .int .u64 2, .int .u64 1, .int .u64 2, .int .u64 4, .int .i64 3, .int .u64 1, .int .u64 0, .int .u64 2, .int .u64 2, .int .u64 3, .int .u64 0, .int .i64 2, .int .u64 0, .int .u64 0, .int .u64 0, .int .u64 0, .int .u64 4, .int .u64 0, .int .i64 0, .int .u64 0, .int .u64 0, .int .u64 0, .int .u64 0]
abbrev zeroCells : Array Value := #[.int .u64 0, .int .u64 0, .int .i64 0, .int .u64 0, .int .u64 0, .int .u64 0, .int .u64 0]
theorem cell_of {W : World} {b : Nat} {cs : Array Value} {T : TypeId} (h : W.heap[b]? = some (.cells cs T (0, 0))) (j : Nat) : W.cell? ⟨b, j, none⟩ = cs[j]? := by simp [World.cell?, h]
theorem four_ok : ∀ x ∈ four, InfOk x := by
  intro x hx
  simp only [List.mem_cons, List.not_mem_nil, or_false] at hx
  rcases hx with rfl | rfl | rfl | rfl <;> exact ⟨⟨by decide, by decide⟩, ⟨by decide, by decide⟩, ⟨by decide, by decide⟩, ⟨⟨by decide, by decide⟩, ⟨by decide, by decide⟩, ⟨by decide, by decide⟩, ⟨by decide, by decide⟩⟩⟩
theorem four_row (T : TypeId) (w : World) : IRow (w.alloc (.cells fourCells T)) (some ⟨w.heap.size, 0, none⟩) four := by
  have k : (w.alloc (.cells fourCells T)).heap[w.heap.size]? = some (.cells fourCells T (0, 0)) := heap_alloc_new w _
  refine ⟨?_, four_ok⟩
  intro j x hx
  refine ⟨w.heap.size, 0, rfl, by rw [size_box]; omega, ?_⟩
  match j, hx with
  | 0, hx => simp at hx; subst hx; exact ⟨cell_of k _, cell_of k _, cell_of k _, cell_of k _, cell_of k _, cell_of k _, cell_of k _⟩
  | 1, hx => simp at hx; subst hx; exact ⟨cell_of k _, cell_of k _, cell_of k _, cell_of k _, cell_of k _, cell_of k _, cell_of k _⟩
  | 2, hx => simp at hx; subst hx; exact ⟨cell_of k _, cell_of k _, cell_of k _, cell_of k _, cell_of k _, cell_of k _, cell_of k _⟩
  | 3, hx => simp at hx; subst hx; exact ⟨cell_of k _, cell_of k _, cell_of k _, cell_of k _, cell_of k _, cell_of k _, cell_of k _⟩
theorem zero_row (T : TypeId) (w : World) : IRow (w.alloc (.cells zeroCells T)) (some ⟨w.heap.size, 0, none⟩) [⟨0, 0, 0, ⟨0, 0, 0, 0⟩⟩] := by
  have k : (w.alloc (.cells zeroCells T)).heap[w.heap.size]? = some (.cells zeroCells T (0, 0)) := heap_alloc_new w _
  refine ⟨?_, ?_⟩
  · intro j x hx
    refine ⟨w.heap.size, 0, rfl, by rw [size_box]; omega, ?_⟩
    match j, hx with
    | 0, hx => simp at hx; subst hx; exact ⟨cell_of k _, cell_of k _, cell_of k _, cell_of k _, cell_of k _, cell_of k _, cell_of k _⟩
  · intro x hx
    simp only [List.mem_cons, List.not_mem_nil, or_false] at hx
    subst hx
    exact ⟨⟨by decide, by decide⟩, ⟨by decide, by decide⟩, ⟨by decide, by decide⟩, ⟨⟨by decide, by decide⟩, ⟨by decide, by decide⟩, ⟨by decide, by decide⟩, ⟨by decide, by decide⟩⟩⟩
theorem four_right : rightR four = true := by decide
theorem four_root : rootV 9 four = ⟨1, 4, 2, 1⟩ := by decide
theorem four_port : portI (rootP 9 four) = 0 := by decide
theorem four_roles : rolesN 9 four four.length = [1, 3, 2, 0] := by decide
theorem four_offers : offersR 9 four = [⟨1, 4, 9, 1⟩, ⟨1, 4, 9, 2⟩, ⟨1, 4, 9, 3⟩, ⟨1, 4, 9, 4⟩] := by decide
theorem zero_right : rightR [⟨0, 0, 0, ⟨0, 0, 0, 0⟩⟩] = false := by decide

theorem aw_one (T : TypeId) (w : World) :
    Calls Try.prog 8 #[.int .u64 9, .slice (some ⟨w.heap.size, 0, none⟩) 4 4] (w.alloc (.cells fourCells T)) fun e w' =>
      ∃ (r0 ro o0 oo : Nat) (rcap ocap : Nat), e = .returned (.tuple #[res 1 4 2 1 0 (.slice (some ⟨r0, ro, none⟩) 4 rcap) (.slice (some ⟨o0, oo, none⟩) 4 ocap), .int .i64 0]) ∧ r0 < w'.heap.size ∧ o0 < w'.heap.size ∧
        w'.cell? ⟨r0, ro, none⟩ = some (.int .i64 1) ∧ w'.cell? ⟨r0, ro + 1, none⟩ = some (.int .i64 3) ∧ w'.cell? ⟨r0, ro + 2, none⟩ = some (.int .i64 2) ∧ w'.cell? ⟨r0, ro + 3, none⟩ = some (.int .i64 0) ∧
        w'.cell? ⟨o0, oo + 2 * 4, none⟩ = some (.int .u64 1) ∧ w'.cell? ⟨o0, oo + 2 * 4 + 1, none⟩ = some (.int .u64 4) ∧ w'.cell? ⟨o0, oo + 2 * 4 + 2, none⟩ = some (.int .u64 9) ∧ w'.cell? ⟨o0, oo + 2 * 4 + 3, none⟩ = some (.int .u64 3) ∧
        Below (w.alloc (.cells fourCells T)).heap.size (w.alloc (.cells fourCells T)) w' := by
  refine (select_ok 9 (some ⟨w.heap.size, 0, none⟩) 4 four 1 4 2 1 0 _ ⟨by decide, by decide⟩ (four_row T w) (by decide) (Lib.hid four_right) (Lib.hid four_root) (Lib.hid four_port)).mono ?_
  rintro e w' ⟨ra, oa, rcap, ocap, rfl, hN, hV, hB⟩
  rw [four_roles] at hN
  rw [four_offers] at hV
  obtain ⟨r0, ro, e0, l0, c0⟩ := hN.at_ 0 _ rfl
  subst e0
  obtain ⟨_, _, e1, _, c1⟩ := hN.at_ 1 _ rfl
  cases e1
  obtain ⟨_, _, e1, _, c2⟩ := hN.at_ 2 _ rfl
  cases e1
  obtain ⟨_, _, e1, _, c3⟩ := hN.at_ 3 _ rfl
  cases e1
  obtain ⟨o0, oo, e0, l1, d0, d1, d2, d3⟩ := hV.at_ 2 _ rfl
  subst e0
  exact ⟨r0, ro, o0, oo, rcap, ocap, rfl, l0, l1, c0, c1, c2, c3, d0, d1, d2, d3, hB⟩
theorem aw_two (T : TypeId) (w : World) :
    Calls Try.prog 8 #[.int .u64 9, .slice (some ⟨w.heap.size, 0, none⟩) 1 1] (w.alloc (.cells zeroCells T)) fun e w' =>
      e = .returned (.tuple #[res 0 0 0 0 0 (.slice none 0 0) (.slice none 0 0), .int .i64 2]) ∧ Below w.heap.size w w' := by
  refine (select_bad 9 (some ⟨w.heap.size, 0, none⟩) 1 [⟨0, 0, 0, ⟨0, 0, 0, 0⟩⟩] _ (zero_row T w) (by decide) (by decide) (Lib.hid zero_right)).mono ?_
  rintro e w' ⟨rfl, hB⟩
  exact ⟨rfl, bw_trans (below_box w _) hB⟩
theorem aw_right (g : Nat) (w : World) (h : IRow w (some ⟨g, 0, none⟩) four) :
    Calls Try.prog 9 #[.slice (some ⟨g, 0, none⟩) 4 4] w fun e w' => e = .returned (.bool true) ∧ Below w.heap.size w w' :=
  right_w (some ⟨g, 0, none⟩) 4 four true w h (by decide) (by decide) (Lib.hid four_right)

set_option maxRecDepth 20000 in
set_option maxHeartbeats 2000000 in
theorem awake_any (w : World) :
    Calls Try.prog 6 #[] w fun e w' => e = .returned (.bool true) ∧ Below w.heap.size w w' := by
  go_enter Try.func6, Try.ntmps6
  go_wp2_with fail
  have hpw := aw_one 42 w
  refine hpw.mono ?_
  clear hpw
  rintro e w1 ⟨r0, ro, o0, oo, rcap, ocap, rfl, l0, l1, c0, c1, c2, c3, d0, d1, d2, d3, hB⟩
  have HR := Lib.hid ((four_row 42 w).next hB)
  have B1 := bw_trans (below_box w _) hB
  clear hB
  go_wp2_with fail
  have hpw := aw_two 42 (w1.alloc (.cells #[.int .u64 1, .int .u64 4, .int .u64 2, .int .u64 1, .int .i64 0, .slice (some ⟨r0, ro, none⟩) 4 rcap, .slice (some ⟨o0, oo, none⟩) 4 ocap] 32))
  rw [size_box] at hpw
  refine hpw.mono ?_
  clear hpw
  rintro e w2 ⟨rfl, hb2⟩
  rw [← size_box w1 (.cells #[.int .u64 1, .int .u64 4, .int .u64 2, .int .u64 1, .int .i64 0, .slice (some ⟨r0, ro, none⟩) 4 rcap, .slice (some ⟨o0, oo, none⟩) 4 ocap] 32)] at hb2
  have RB := (rblk_new w1 1 4 2 1 0 (.slice (some ⟨r0, ro, none⟩) 4 rcap) (.slice (some ⟨o0, oo, none⟩) 4 ocap)).next hb2
  have b2 := bw_trans (below_box w1 _) hb2
  have b3 := bw_alloc b2 (.cells #[.int .u64 0, .int .u64 0, .int .u64 0, .int .u64 0, .int .i64 0, .slice none 0 0, .slice none 0 0] 32)
  obtain ⟨W, hW⟩ : ∃ W, W = w2.alloc (.cells #[.int .u64 0, .int .u64 0, .int .u64 0, .int .u64 0, .int .i64 0, .slice none 0 0, .slice none 0 0] 32) := ⟨_, rfl⟩
  replace RB := RB.next (below_box w2 (.cells #[.int .u64 0, .int .u64 0, .int .u64 0, .int .u64 0, .int .i64 0, .slice none 0 0, .slice none 0 0] 32))
  go_upto_region 4 with (fail)
  rw [← hW] at b3 RB ⊢
  clear hW hb2 b2
  replace c0 := (b3.cell (p := ⟨r0, ro, none⟩) l0).trans c0
  replace c1 := (b3.cell (p := ⟨r0, ro + 1, none⟩) l0).trans c1
  replace c2 := (b3.cell (p := ⟨r0, ro + 2, none⟩) l0).trans c2
  replace c3 := (b3.cell (p := ⟨r0, ro + 3, none⟩) l0).trans c3
  replace d0 := (b3.cell (p := ⟨o0, oo + 2 * 4, none⟩) l1).trans d0
  replace d1 := (b3.cell (p := ⟨o0, oo + 2 * 4 + 1, none⟩) l1).trans d1
  replace d2 := (b3.cell (p := ⟨o0, oo + 2 * 4 + 2, none⟩) l1).trans d2
  replace d3 := (b3.cell (p := ⟨o0, oo + 2 * 4 + 3, none⟩) l1).trans d3
  replace HR := Lib.hid (HR.out.next b3)
  have B3 := bw_trans B1 b3
  have lr := RB.lt
  obtain ⟨k0, k1, k2, k3, k4, k5, k6⟩ := RB.cells
  replace l0 := Nat.lt_of_lt_of_le l0 b3.size
  replace l1 := Nat.lt_of_lt_of_le l1 b3.size
  clear RB b3 B1
  go_wp2_with fail
  (with_reducible refine (mine_w 9 _).mono ?_)
  rintro e w3 ⟨rfl, hb3⟩
  have hpw := aw_right w.heap.size w3 (HR.out.next hb3)
  have B4 := bw_trans B3 hb3
  clear c0 c1 c2 c3 d0 d1 d2 d3 k0 k1 k2 k3 k4 k5 k6 hb3 B3
  go_wp2_with (go_at_call 9; refine hpw.mono ?_; clear hpw; rintro e w4 ⟨rfl, hb4⟩)
  go_ret
  exact ⟨rfl, bw_trans B4 hb4⟩
end Go.Proofs.Ytkakjkdjjapiaaa
