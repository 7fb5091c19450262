/-
  Walks of layer 1: a counter: New, Parse, Count.
-/
import Derived.Test.YtbpgaeeihfknfaaFrW
import Derived.Laws.LoneSync
namespace Go.Proofs.Ytbpgaeeihfknfaa
set_option linter.unusedVariables false
set_option linter.unusedSimpArgs false
open Go.RowKit Fm

/-- Block b is a counter that counted g and d. -/
def Ctr (w : World) (b : Nat) (g d : Int) : Prop := w.heap[b]? = some (.cells #[.int .i64 g, .int .i64 d] 57 (0, 0))
theorem Ctr.below {w w' : World} {b B : Nat} {g d : Int} (h : Ctr w b g d) (hb : Below B w w') (hB : b < B) : Ctr w' b g d := (hb.block b hB).trans h
theorem Ctr.cell0 {w : World} {b : Nat} {g d : Int} (h : Ctr w b g d) : w.cell? ⟨b, 0, none⟩ = some (.int .i64 g) := by
  unfold Ctr at h; simp [World.cell?, h]
theorem Ctr.cell1 {w : World} {b : Nat} {g d : Int} (h : Ctr w b g d) : w.cell? ⟨b, 1, none⟩ = some (.int .i64 d) := by
  unfold Ctr at h; simp [World.cell?, h]
theorem Ctr.free {w : World} {b : Nat} {g d : Int} (h : Ctr w b g d) (j : Nat) : w.frozen? ⟨b, j, none⟩ = false := by
  unfold Ctr at h; simp [World.frozen?, h]
theorem Ctr.lt {w : World} {b : Nat} {g d : Int} (h : Ctr w b g d) : b < w.heap.size := (Array.getElem?_eq_some_iff.1 h).1
theorem Ctr.set0 {w : World} {b : Nat} {g d : Int} (h : Ctr w b g d) (x : Int) : Ctr (w.setCell ⟨b, 0, none⟩ (.int .i64 x)) b x d := by
  unfold Ctr at h ⊢
  exact blk_set (i := 0) (x := .int .i64 x) (cs' := #[.int .i64 x, .int .i64 d]) h rfl
theorem Ctr.set1 {w : World} {b : Nat} {g d : Int} (h : Ctr w b g d) (x : Int) : Ctr (w.setCell ⟨b, 1, none⟩ (.int .i64 x)) b g x := by
  unfold Ctr at h ⊢
  exact blk_set (i := 1) (x := .int .i64 x) (cs' := #[.int .i64 g, .int .i64 x]) h rfl

set_option maxHeartbeats 400000 in
theorem new_any (w : World) : Calls Try.prog 18 #[] w fun e w' => e = .returned (.pointer (some ⟨w.heap.size, 0, none⟩)) ∧ Ctr w' w.heap.size 0 0 ∧ Below w.heap.size w w' := by
  go_enter Try.func18, Try.ntmps18
  go_wp2
  go_ret
  exact ⟨rfl, heap_alloc_new w _, below_box _ _⟩

def NewC (w : World) (e : Ending) (w' : World) : Prop := ∃ b : Nat, e = .returned (.pointer (some ⟨b, 0, none⟩)) ∧ w.heap.size ≤ b ∧ Ctr w' b 0 0 ∧ Below w.heap.size w w'
theorem new_c (w : World) : Calls Try.prog 18 #[] w (NewC w) := (new_any w).mono fun _ _ ⟨he, hk, hb⟩ => ⟨_, he, Nat.le_refl _, hk, hb⟩

set_option maxHeartbeats 400000 in
theorem add_any (b o : Nat) (x : Int) (w : World) (h0 : 0 ≤ x) (h1 : x ≤ 1000000000) (hc : w.cell? ⟨b, o, none⟩ = some (.int .i64 x)) (hz : w.frozen? ⟨b, o, none⟩ = false) :
    Calls Try.prog 26 #[.pointer (some ⟨b, o, none⟩), .int .i64 1] w fun e w' => e = .returned (.int .i64 (x + 1)) ∧ w.setCell ⟨b, o, none⟩ (.int .i64 (x + 1)) = w' := by
  have hadd := run_call_add (P := Try.prog) Try.func28 (by kernel_rfl) (by kernel_rfl) (by kernel_rfl) .i64 (by kernel_rfl) (y := 1) (s := x + 1) hc hz (by simp [go_sem, IntKind.wrap_i64]; omega)
  go_enter Try.func26, Try.ntmps26
  go_wp2
  go_ret
  exact ⟨rfl, rfl⟩

set_option maxHeartbeats 400000 in
theorem load_any (b o : Nat) (x : Int) (w : World) (hc : w.cell? ⟨b, o, none⟩ = some (.int .i64 x)) :
    Calls Try.prog 27 #[.pointer (some ⟨b, o, none⟩)] w fun e w' => e = .returned (.int .i64 x) ∧ w' = w := by
  have hl := run_call_load (P := Try.prog) Try.func29 (by kernel_rfl) (by kernel_rfl) (by kernel_rfl) .i64 (by kernel_rfl) hc
  go_enter Try.func27, Try.ntmps27
  go_wp2
  go_ret
  exact ⟨rfl, rfl⟩

set_option maxHeartbeats 400000 in
theorem count_any (b : Nat) (g d : Int) (w : World) (h : Ctr w b g d) :
    Calls Try.prog 20 #[.pointer (some ⟨b, 0, none⟩)] w fun e w' => e = .returned (.tuple #[.int .i64 g, .int .i64 d]) ∧ ∃ nq, w' = w.drewN nq := by
  have hc0 : ∀ nq, (w.drewN nq).cell? ⟨b, 0, none⟩ = some (.int .i64 g) := fun _ => h.cell0
  have hc1 : ∀ nq, (w.drewN nq).cell? ⟨b, 1, none⟩ = some (.int .i64 d) := fun _ => h.cell1
  have c0 := h.cell0
  have c1 := h.cell1
  go_enter Try.func20, Try.ntmps20
  go_wp2
  go_quiet ((first | (go_at_call_of 27 (Value.pointer (some ⟨b, 0, none⟩)); exact Calls.quiet_of_same (load_any _ _ _ _ (hc0 _))) | (go_at_call_of 27 (Value.pointer (some ⟨b, 1, none⟩)); exact Calls.quiet_of_same (load_any _ _ _ _ (hc1 _)))))
  go_wp2
  go_ret2
  exact ⟨rfl, nq, rfl⟩

theorem Blk.other {w : World} {b : Nat} {d s : ByteArray} {t : Bool} {p v ty : Int} {pl : ByteArray} (h : Blk w b d s t p v ty pl) {c : Nat} (i : Nat) (x : Value) (hne : b ≠ c) : Blk (w.setCell ⟨c, i, none⟩ x) b d s t p v ty pl :=
  (Below.heap_setCell w ⟨c, i, none⟩ x b hne).trans h
theorem Ctr.other {w : World} {b : Nat} {g d : Int} (h : Ctr w b g d) {c : Nat} (i : Nat) (x : Value) (hne : b ≠ c) : Ctr (w.setCell ⟨c, i, none⟩ x) b g d :=
  (Below.heap_setCell w ⟨c, i, none⟩ x b hne).trans h
theorem Ctr.set7 {w : World} {b : Nat} {g d : Int} (h : Ctr w b g d) {c : Nat} (hne : b ≠ c) (v0 v1 v2 v3 v4 v5 v6 : Value) :
    Ctr (((((((w.setCell ⟨c, 0, none⟩ v0).setCell ⟨c, 1, none⟩ v1).setCell ⟨c, 2, none⟩ v2).setCell ⟨c, 3, none⟩ v3).setCell ⟨c, 4, none⟩ v4).setCell ⟨c, 5, none⟩ v5).setCell ⟨c, 6, none⟩ v6) b g d :=
  ((((((h.other 0 v0 hne).other 1 v1 hne).other 2 v2 hne).other 3 v3 hne).other 4 v4 hne).other 5 v5 hne).other 6 v6 hne

theorem count_b (b : Nat) (g d : Int) (w : World) (h : Ctr w b g d) :
    Calls Try.prog 20 #[.pointer (some ⟨b, 0, none⟩)] w fun e w' => e = .returned (.tuple #[.int .i64 g, .int .i64 d]) ∧ Below w.heap.size w w' :=
  (count_any b g d w h).mono fun _ _ ⟨he, nq, hw⟩ => ⟨he, by rw [hw]; exact below_drewN (Below.refl _ _) nq⟩

/-- What a counter's Parse leaves: the answer of Parse; the count raised; all below the counter as it was. -/
def Counted (w : World) (b : Nat) (g d : Int) (F : Fr) (E : Int) (e : Ending) (w' : World) : Prop :=
  e = .returned (.tuple #[F.val, .int .i64 E]) ∧ Ctr w' b (if E = 0 then g + 1 else g) (if E = 0 then d else d + 1) ∧ Below b w w'

theorem parse_is (s : ByteArray) (w : World) (F : Fr) (E : Int) (hP : Hid (parseR s = (F, E))) (hm : s.size ≤ maxLen) :
    Calls Try.prog 10 #[.string s] w fun e w' => e = .returned (.tuple #[F.val, .int .i64 E]) ∧ Below w.heap.size w w' := by
  have h := parse_any s w hm
  rw [hP.out] at h
  exact h

set_option maxHeartbeats 1000000 in
theorem cparse_is (b : Nat) (g d : Int) (s : ByteArray) (w : World) (fd fs : ByteArray) (ft : Bool) (fp fvl fty : Int) (fpl : ByteArray) (E : Int) (hP : Hid (parseR s = (⟨fd, fs, ft, fp, fvl, fty, fpl⟩, E)))
    (hg0 : 0 ≤ g) (hg1 : g ≤ 1000000) (hd0 : 0 ≤ d) (hd1 : d ≤ 1000000) (h : Ctr w b g d) (hm : s.size ≤ maxLen) :
    Calls Try.prog 19 #[.pointer (some ⟨b, 0, none⟩), .string s] w (Counted w b g d ⟨fd, fs, ft, fp, fvl, fty, fpl⟩ E) := by
  have hlt := h.lt
  go_enter Try.func19, Try.ntmps19
  go_wp2_with fail
  refine (parse_is _ _ _ _ hP hm).mono ?_
  rintro e w1 ⟨rfl, hb1⟩
  have B1 := bw_trans (below_box w _) hb1
  have K1 := h.below B1 hlt
  have R1 := (blk_new w ⟨#[]⟩ ⟨#[]⟩ false 0 0 0 ⟨#[]⟩).below hb1 (by simp)
  have z1 := R1.lt
  clear hb1
  have hbz : b < w1.heap.size := by omega
  by_cases hE : E = 0
  · subst hE
    go_wp2_with fail
    have W := Below.alloc (Below.refl w1.heap.size w1) (Nat.le_refl _) (.cells #[.string fd, .string fs, .bool ft, .int .i64 fp, .int .i64 fvl, .int .i64 fty, .string fpl] 23)
    have K2 := K1.below W hbz
    have R2 := R1.below W z1
    have N2 := blk_new w1 fd fs ft fp fvl fty fpl
    have B2 := B1.trans (W.mono (Nat.le_of_lt z1))
    refine (add_any b 0 g _ hg0 (by omega) K2.cell0 (K2.free 0)).mono ?_
    rintro e w3 ⟨rfl, hw3⟩
    have K3 := K2.set0 (g + 1)
    have R3 := R2.other 0 (.int .i64 (g + 1)) (Nat.ne_of_gt hlt)
    have N3 := N2.other 0 (.int .i64 (g + 1)) (Nat.ne_of_gt hbz)
    have B3 := (B2.mono (Nat.le_of_lt hlt)).setCell (p := ⟨b, 0, none⟩) (Nat.le_refl _) (.int .i64 (g + 1))
    rw [hw3] at K3 R3 N3 B3
    clear hw3 K2 R2 N2 B2 W K1 R1 B1
    have y := N3.cells
    obtain ⟨c0, c1, c2, c3, c4, c5, c6⟩ := y
    have y := R3.cells
    obtain ⟨q0, q1, q2, q3, q4, q5, q6⟩ := y
    have f0 := R3.free 0
    have f1 := R3.free 1
    have f2 := R3.free 2
    have f3 := R3.free 3
    have f4 := R3.free 4
    have f5 := R3.free 5
    have f6 := R3.free 6
    go_wp2
    refine bodyPost_ret (v := .tuple #[fv fd fs ft fp fvl fty fpl, .int .i64 0]) (by simp [results, Try.results19, go_sem, q0, q1, q2, q3, q4, q5, q6]) rfl ⟨rfl, ?_, below_set7 B3 (Nat.le_of_lt hlt) _ _ _ _ _ _ _⟩
    rw [if_pos rfl, if_pos rfl]
    exact K3.set7 (Nat.ne_of_lt hlt) _ _ _ _ _ _ _
  · have he0 : (E == 0) = false := beq_eq_false_iff_ne.2 hE
    have HE := Lib.hid hE; clear hE
    go_wp2_with fail
    have W := Below.alloc (Below.refl w1.heap.size w1) (Nat.le_refl _) (.cells #[.string fd, .string fs, .bool ft, .int .i64 fp, .int .i64 fvl, .int .i64 fty, .string fpl] 23)
    have K2 := K1.below W hbz
    have R2 := R1.below W z1
    have N2 := blk_new w1 fd fs ft fp fvl fty fpl
    have B2 := B1.trans (W.mono (Nat.le_of_lt z1))
    refine (add_any b 1 d _ hd0 (by omega) K2.cell1 (K2.free 1)).mono ?_
    rintro e w3 ⟨rfl, hw3⟩
    have K3 := K2.set1 (d + 1)
    have R3 := R2.other 1 (.int .i64 (d + 1)) (Nat.ne_of_gt hlt)
    have N3 := N2.other 1 (.int .i64 (d + 1)) (Nat.ne_of_gt hbz)
    have B3 := (B2.mono (Nat.le_of_lt hlt)).setCell (p := ⟨b, 1, none⟩) (Nat.le_refl _) (.int .i64 (d + 1))
    rw [hw3] at K3 R3 N3 B3
    clear hw3 K2 R2 N2 B2 W K1 R1 B1
    have y := N3.cells
    obtain ⟨c0, c1, c2, c3, c4, c5, c6⟩ := y
    have y := R3.cells
    obtain ⟨q0, q1, q2, q3, q4, q5, q6⟩ := y
    have f0 := R3.free 0
    have f1 := R3.free 1
    have f2 := R3.free 2
    have f3 := R3.free 3
    have f4 := R3.free 4
    have f5 := R3.free 5
    have f6 := R3.free 6
    go_wp2
    refine bodyPost_ret (v := .tuple #[fv fd fs ft fp fvl fty fpl, .int .i64 E]) (by simp [results, Try.results19, go_sem, q0, q1, q2, q3, q4, q5, q6]) rfl ⟨rfl, ?_, below_set7 B3 (Nat.le_of_lt hlt) _ _ _ _ _ _ _⟩
    rw [if_neg HE.out, if_neg HE.out]
    exact K3.set7 (Nat.ne_of_lt hlt) _ _ _ _ _ _ _

theorem cparse_any (b : Nat) (g d : Int) (s : ByteArray) (w : World) (hg0 : 0 ≤ g) (hg1 : g ≤ 1000000) (hd0 : 0 ≤ d) (hd1 : d ≤ 1000000) (h : Ctr w b g d) (hm : s.size ≤ maxLen) :
    Calls Try.prog 19 #[.pointer (some ⟨b, 0, none⟩), .string s] w (Counted w b g d (parseR s).1 (parseR s).2) :=
  cparse_is b g d s w _ _ _ _ _ _ _ _ rfl hg0 hg1 hd0 hd1 h hm
end Go.Proofs.Ytbpgaeeihfknfaa
