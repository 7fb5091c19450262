/-
  Layer 11: what is asked of a BPDU and of times (no port in it): Supersedes, ticks, TimesOf, Role, has, holds.
-/
import Derived.Test.YtbiggckddoeghaaInC
namespace Go.Proofs.Ytbiggckddoeghaa
set_option linter.unusedVariables false
set_option linter.unusedSimpArgs false
open Go.RowKit Vm Rm Bm Im

set_option maxHeartbeats 400000 in
theorem sent_any (r c b p : Int) (w : World) (hb : Vm.u64B b) (hp : Vm.u64B p) :
    Calls Try.prog 83 #[vv r c b p] w fun e w' => e = .returned (.agg #[.int .u64 (b % 281474976710656), .int .u64 (p % 4096)]) ∧ Below w.heap.size w w' := by
  go_enter Try.func83, Try.ntmps83
  go_wp2
  rw [mask_48 b hb, mask_12 p hp]
  obtain ⟨W, hW⟩ : ∃ W, W = (w.alloc (.cells #[.int .u64 r, .int .u64 c, .int .u64 b, .int .u64 p] 24)).alloc (.cells #[.int .u64 (b % 281474976710656), .int .u64 (p % 4096)] 113) := ⟨_, rfl⟩
  have k : W.heap[w.heap.size + 1]? = some (.cells #[.int .u64 (b % 281474976710656), .int .u64 (p % 4096)] 113 (0, 0)) := by rw [hW, ← size_box w (.cells #[.int .u64 r, .int .u64 c, .int .u64 b, .int .u64 p] 24)]; exact heap_alloc_new (w.alloc _) _
  have k0 : W.cell? ⟨w.heap.size + 1, 0, none⟩ = some (.int .u64 (b % 281474976710656)) := by simp [World.cell?, k]
  have k1 : W.cell? ⟨w.heap.size + 1, 1, none⟩ = some (.int .u64 (p % 4096)) := by simp [World.cell?, k]
  have B : Below w.heap.size w W := by rw [hW]; exact bw_alloc (below_box _ _) _
  rw [← hW]
  clear hW k
  exact bodyPost_ret (v := .agg #[.int .u64 (b % 281474976710656), .int .u64 (p % 4096)]) (by simp [results, Try.results83, go_sem, k0, k1]) rfl ⟨rfl, B⟩
theorem better_w (r c b p r' c' b' p' : Int) (R : Bool) (w : World) (hR : Hid (decide (cmpR ⟨r, c, b, p⟩ ⟨r', c', b', p'⟩ < 0) = R)) :
    Calls Try.prog 82 #[vv r c b p, vv r' c' b' p'] w fun e w' => e = .returned (.bool R) ∧ Below w.heap.size w w' := by
  obtain ⟨X, hX⟩ : ∃ X, cmpR ⟨r, c, b, p⟩ ⟨r', c', b', p'⟩ = X := ⟨_, rfl⟩
  have e := hR.out
  rw [hX] at e
  subst e
  clear hR
  have HX := Lib.hid hX; clear hX
  go_enter Try.func82, Try.ntmps82
  go_wp2_with fail
  refine (compare_w r c b p r' c' b' p' X _ HX).mono ?_
  rintro e w1 ⟨rfl, hb1⟩
  have B1 := bw_trans (bw_alloc (below_box w _) _) hb1
  clear hb1
  go_wp2
  all_goals go_ret
  exact ⟨rfl, B1⟩

theorem run_sndEq (x y x' y' : Int) (w : World) :
    Sem.run Try.prog (binOp .eql 113 (.agg #[.int .u64 x, .int .u64 y]) (.agg #[.int .u64 x', .int .u64 y'])) w = .ok (.bool (decide (x = x' ∧ y = y'))) w := by
  go_simp
  repeat' split
  all_goals simp_all

/-- The cells of two vectors. -/
abbrev Two (w : World) (b1 b2 : Nat) (r c b p r' c' b' p' : Int) : Prop :=
  (w.cell? ⟨b1, 0, none⟩ = some (.int .u64 r) ∧ w.cell? ⟨b1, 1, none⟩ = some (.int .u64 c) ∧ w.cell? ⟨b1, 2, none⟩ = some (.int .u64 b) ∧ w.cell? ⟨b1, 3, none⟩ = some (.int .u64 p)) ∧ (w.cell? ⟨b2, 0, none⟩ = some (.int .u64 r') ∧ w.cell? ⟨b2, 1, none⟩ = some (.int .u64 c') ∧ w.cell? ⟨b2, 2, none⟩ = some (.int .u64 b') ∧ w.cell? ⟨b2, 3, none⟩ = some (.int .u64 p'))

set_option maxHeartbeats 1000000 in
theorem super_w (r c b p r' c' b' p' : Int) (R : Bool) (w : World) (hR : Hid (superB ⟨r, c, b, p⟩ ⟨r', c', b', p'⟩ = R)) (hb : Vm.u64B b) (hp : Vm.u64B p) (hb' : Vm.u64B b') (hp' : Vm.u64B p') :
    Calls Try.prog 67 #[vv r c b p, vv r' c' b' p'] w fun e w' => e = .returned (.bool R) ∧ Below w.heap.size w w' := by
  have C1 := Lib.hid (fun w' => sent_any r c b p w' hb hp)
  have C2 := Lib.hid (fun w' => sent_any r' c' b' p' w' hb' hp')
  clear hb hp hb' hp'
  have hq := run_sndEq (b % 281474976710656) (p % 4096) (b' % 281474976710656) (p' % 4096)
  go_enter Try.func67, Try.ntmps67
  go_upto_region 1 with (fail)
  obtain ⟨W, hW⟩ : ∃ W, W = (w.alloc (.cells #[.int .u64 r, .int .u64 c, .int .u64 b, .int .u64 p] 24)).alloc (.cells #[.int .u64 r', .int .u64 c', .int .u64 b', .int .u64 p'] 24) := ⟨_, rfl⟩
  have kW : Blk 24 W w.heap.size ⟨r, c, b, p⟩ := by rw [hW]; exact (blk_new 24 w r c b p).next (below_box _ _)
  have mW : Blk 24 W (w.heap.size + 1) ⟨r', c', b', p'⟩ := by
    have := blk_new 24 (w.alloc (.cells #[.int .u64 r, .int .u64 c, .int .u64 b, .int .u64 p] 24)) r' c' b' p'
    rw [size_box] at this
    rw [hW]; exact this
  have BW : Below w.heap.size w W := by rw [hW]; exact bw_alloc (below_box _ _) _
  rw [← hW]
  clear hW
  have lk := kW.lt
  have lm := mW.lt
  have S0 : Two W w.heap.size (w.heap.size + 1) r c b p r' c' b' p' := ⟨kW.cells, mW.cells⟩
  cases hz : decide (cmpR ⟨r, c, b, p⟩ ⟨r', c', b', p'⟩ < 0) with
  | true =>
    have e : R = true := by rw [← hR.out]; simp only [superB, hz, Bool.true_or]
    subst e
    have C0 := Lib.hid (fun w' => better_w r c b p r' c' b' p' true w' (Lib.hid hz))
    clear hz hR C1 C2 hq
    obtain ⟨⟨c0, c1, c2, c3⟩, ⟨d0, d1, d2, d3⟩⟩ := S0
    go_region_with (go_at_call 82; (with_reducible refine (C0.out _).mono ?_); rintro e y0 ⟨rfl, hb0⟩)
    all_goals go_wp2_with fail
    all_goals go_ret
    all_goals exact ⟨rfl, bw_trans BW (((Below.refl W.heap.size W).drew).trans hb0)⟩
  | false =>
    have e : R = sameB ⟨r, c, b, p⟩ ⟨r', c', b', p'⟩ := by rw [← hR.out]; simp only [superB, hz, Bool.false_or]
    subst e
    have C0 := Lib.hid (fun w' => better_w r c b p r' c' b' p' false w' (Lib.hid hz))
    clear hz hR
    go_region_held3 (fun w' => Two w' w.heap.size (w.heap.size + 1) r c b p r' c' b' p') (first | exact S0 | exact T0 | exact T1 | exact T2) (first
      | (go_at_call 82; (with_reducible refine (C0.out _).mono ?_); rintro e y0 ⟨rfl, hb0⟩; have D0 := ((Below.refl W.heap.size W).drew).trans hb0; have T0 : Two y0 w.heap.size (w.heap.size + 1) r c b p r' c' b' p' := ⟨(kW.below D0 lk).cells, (mW.below D0 lm).cells⟩)
      | (go_at_call 83; (with_reducible refine (C1.out _).mono ?_); rintro e y1 ⟨rfl, hb1⟩; have D1 := bw_trans D0 hb1; have T1 : Two y1 w.heap.size (w.heap.size + 1) r c b p r' c' b' p' := ⟨(kW.below D1 lk).cells, (mW.below D1 lm).cells⟩)
      | (go_at_call 83; (with_reducible refine (C2.out _).mono ?_); rintro e y2 ⟨rfl, hb2⟩; have D2 := bw_trans D1 hb2; have T2 : Two y2 w.heap.size (w.heap.size + 1) r c b p r' c' b' p' := ⟨(kW.below D2 lk).cells, (mW.below D2 lm).cells⟩))
    all_goals go_wp2_with fail
    all_goals go_ret
    all_goals exact ⟨ret_bool (by simp [sameB]), bw_trans BW D2⟩


abbrev tv (a m h d : Int) : Value := .agg #[.int .i64 a, .int .i64 m, .int .i64 h, .int .i64 d]
theorem run_tmEq (a m h d a' m' h' d' : Int) (w : World) :
    Sem.run Try.prog (binOp .eql 26 (tv a m h d) (tv a' m' h' d')) w = .ok (.bool (decide ((⟨a, m, h, d⟩ : Tm) = ⟨a', m', h', d'⟩))) w := by
  unfold tv
  go_simp
  repeat' split
  all_goals simp_all
theorem run_tmNe (a m h d a' m' h' d' : Int) (w : World) :
    Sem.run Try.prog (binOp .neq 26 (tv a m h d) (tv a' m' h' d')) w = .ok (.bool (!decide ((⟨a, m, h, d⟩ : Tm) = ⟨a', m', h', d'⟩))) w := by
  unfold tv
  go_simp
  repeat' split
  all_goals simp_all
theorem run_vcNe (r c b p r' c' b' p' : Int) (w : World) :
    Sem.run Try.prog (binOp .neq 24 (vv r c b p) (vv r' c' b' p')) w = .ok (.bool (!decide ((⟨r, c, b, p⟩ : Vc) = ⟨r', c', b', p'⟩))) w := by
  unfold vv
  go_simp
  repeat' split
  all_goals simp_all
/-- A block of times. -/
def TBk (T : TypeId) (w : World) (b : Nat) (a m h d : Int) : Prop := w.heap[b]? = some (.cells #[.int .i64 a, .int .i64 m, .int .i64 h, .int .i64 d] T (0, 0))
section
variable {T : TypeId} {w w' : World} {b : Nat} {a m h d : Int}
theorem TBk.lt (H : TBk T w b a m h d) : b < w.heap.size := (Array.getElem?_eq_some_iff.1 H).1
theorem TBk.next (H : TBk T w b a m h d) (hb : Below w.heap.size w w') : TBk T w' b a m h d := (hb.block b H.lt).trans H
theorem TBk.cells (H : TBk T w b a m h d) : w.cell? ⟨b, 0, none⟩ = some (.int .i64 a) ∧ w.cell? ⟨b, 1, none⟩ = some (.int .i64 m) ∧ w.cell? ⟨b, 2, none⟩ = some (.int .i64 h) ∧ w.cell? ⟨b, 3, none⟩ = some (.int .i64 d) := by
  unfold TBk at H
  refine ⟨?_, ?_, ?_, ?_⟩ <;> simp [World.cell?, H]
theorem TBk.free (H : TBk T w b a m h d) (j : Nat) : w.frozen? ⟨b, j, none⟩ = false := by
  unfold TBk at H
  simp [World.frozen?, H]
theorem tbk_new (T : TypeId) (w : World) (a m h d : Int) : TBk T (w.alloc (.cells #[.int .i64 a, .int .i64 m, .int .i64 h, .int .i64 d] T)) w.heap.size a m h d := heap_alloc_new w _
theorem TBk.set4 (H : TBk T w b a m h d) (a' m' h' d' : Int) : TBk T ((((w.setCell ⟨b, 0, none⟩ (.int .i64 a')).setCell ⟨b, 1, none⟩ (.int .i64 m')).setCell ⟨b, 2, none⟩ (.int .i64 h')).setCell ⟨b, 3, none⟩ (.int .i64 d')) b a' m' h' d' := by
  unfold TBk at H ⊢
  exact blk_set (blk_set (blk_set (blk_set H rfl) rfl) rfl) rfl
theorem TBk.far (H : TBk T w b a m h d) {c : Nat} (j : Nat) (v : Value) (hne : b ≠ c) : TBk T (w.setCell ⟨c, j, none⟩ v) b a m h d := (Below.heap_setCell w ⟨c, j, none⟩ v b hne).trans H
end
theorem ret_val {a b : Value} (h : a = b) : Ending.returned a = .returned b := by rw [h]

theorem ticks_any (n : Int) (w : World) :
    Calls Try.prog 80 #[.int .i64 n] w fun e w' => e = .returned (.int .i64 (n / 256)) ∧ w = w' := by
  go_enter Try.func80, Try.ntmps80
  go_wp2
  all_goals go_ret
  all_goals exact ⟨ret_int (by first | rfl | omega | simp), rfl⟩

theorem hello_w (n H : Int) (w : World) (h0 : 0 ≤ n) (hH : Hid ((if n / 256 < 1 then 1 else n / 256) = H)) :
    Calls Try.prog 81 #[.int .i64 n] w fun e w' => e = .returned (.int .i64 H) ∧ w = w' := by
  rw [← hH.out]
  clear hH
  by_cases hz : n / 256 = 0
  · have z : (n / 256 != 0) = false := by simp [hz]
    go_enter Try.func81, Try.ntmps81
    go_wp2_with fail
    refine (ticks_any n _).mono ?_
    rintro e w1 ⟨rfl, rfl⟩
    go_wp2
    all_goals go_ret
    all_goals exact ⟨ret_int (by first | rfl | rw [if_pos (by omega)]), rfl⟩
  · have z : (n / 256 != 0) = true := bne_iff_ne.2 hz
    go_enter Try.func81, Try.ntmps81
    go_wp2_with fail
    refine (ticks_any n _).mono ?_
    rintro e w1 ⟨rfl, rfl⟩
    go_wp2
    all_goals go_ret
    all_goals exact ⟨ret_int (by first | rfl | rw [if_neg (by omega)]), rfl⟩

set_option maxHeartbeats 1000000 in
theorem times_w (k f r c b p a m h d H : Int) (w : World) (h0 : 0 ≤ h) (hH : Hid ((if h / 256 < 1 then 1 else h / 256) = H)) :
    Calls Try.prog 66 #[bv k f r c b p a m h d] w fun e w' => e = .returned (tv (a / 256) (m / 256) H (d / 256)) ∧ Below w.heap.size w w' := by
  have CA := Lib.hid (fun w' => ticks_any a w')
  have CM := Lib.hid (fun w' => ticks_any m w')
  have CD := Lib.hid (fun w' => ticks_any d w')
  have CH := Lib.hid (fun w' => hello_w h H w' h0 hH)
  clear h0 hH
  unfold bv
  go_enter Try.func66, Try.ntmps66
  go_upto_region 1 with (fail)
  obtain ⟨W, hW⟩ : ∃ W, W = (w.alloc (.cells #[.int .i64 k, .int .i64 f, .int .u64 r, .int .u64 c, .int .u64 b, .int .u64 p, .int .i64 a, .int .i64 m, .int .i64 h, .int .i64 d] 30)).alloc (.cells #[.int .i64 0, .int .i64 0, .int .i64 0, .int .i64 0] 26) := ⟨_, rfl⟩
  have kB : BBlk 30 W w.heap.size ⟨k, f, r, c, b, p, a, m, h, d⟩ := by rw [hW]; exact (bblk_new 30 w k f r c b p a m h d).next (below_box _ _)
  have kT : TBk 26 W (w.heap.size + 1) 0 0 0 0 := by
    have := tbk_new 26 (w.alloc (.cells #[.int .i64 k, .int .i64 f, .int .u64 r, .int .u64 c, .int .u64 b, .int .u64 p, .int .i64 a, .int .i64 m, .int .i64 h, .int .i64 d] 30)) 0 0 0 0
    rw [size_box] at this
    rw [hW]; exact this
  have BW : Below w.heap.size w W := by rw [hW]; exact bw_alloc (below_box _ _) _
  rw [← hW]
  clear hW
  obtain ⟨t0, t1, t2, t3⟩ := kT.cells
  have f0 := kT.free
  obtain ⟨c0, c1, c2, c3, c4, c5, c6, c7, c8, c9⟩ := kB.cells
  have ne : w.heap.size ≠ w.heap.size + 1 := by omega
  have mk : ∀ V, BBlk 30 V w.heap.size ⟨k, f, r, c, b, p, a, m, h, d⟩ → (V.cell? ⟨w.heap.size, 6, none⟩ = some (.int .i64 a) ∧ V.cell? ⟨w.heap.size, 7, none⟩ = some (.int .i64 m) ∧ V.cell? ⟨w.heap.size, 8, none⟩ = some (.int .i64 h) ∧ V.cell? ⟨w.heap.size, 9, none⟩ = some (.int .i64 d)) := fun V h => by
    obtain ⟨_, _, _, _, _, _, e6, e7, e8, e9⟩ := h.cells
    exact ⟨e6, e7, e8, e9⟩
  have S0 := mk W kB
  have S1 := mk _ ((((kB.other 0 (.int .i64 (a / 256)) ne).other 1 (.int .i64 (m / 256)) ne).other 2 (.int .i64 H) ne).other 3 (.int .i64 (d / 256)) ne)
  have KT := Lib.hid (kT.set4 (a / 256) (m / 256) H (d / 256))
  have KB := Lib.hid ((((BW.setCell (p := ⟨w.heap.size + 1, 0, none⟩) (by show _ ≤ _ + 1; omega) (.int .i64 (a / 256))).setCell (p := ⟨w.heap.size + 1, 1, none⟩) (by show _ ≤ _ + 1; omega) (.int .i64 (m / 256))).setCell (p := ⟨w.heap.size + 1, 2, none⟩) (by show _ ≤ _ + 1; omega) (.int .i64 H)).setCell (p := ⟨w.heap.size + 1, 3, none⟩) (by show _ ≤ _ + 1; omega) (.int .i64 (d / 256)))
  clear c0 c1 c2 c3 c4 c5 c6 c7 c8 c9 kB BW mk
  go_region_held3 (fun w' => w'.cell? ⟨w.heap.size, 6, none⟩ = some (.int .i64 a) ∧ w'.cell? ⟨w.heap.size, 7, none⟩ = some (.int .i64 m) ∧ w'.cell? ⟨w.heap.size, 8, none⟩ = some (.int .i64 h) ∧ w'.cell? ⟨w.heap.size, 9, none⟩ = some (.int .i64 d)) (first | exact S0 | exact S1) (first
    | (go_at_call 80; (with_reducible refine (CA.out _).mono ?_); rintro e y0 ⟨rfl, rfl⟩)
    | (go_at_call 80; (with_reducible refine (CM.out _).mono ?_); rintro e y0 ⟨rfl, rfl⟩)
    | (go_at_call 81; (with_reducible refine (CH.out _).mono ?_); rintro e y0 ⟨rfl, rfl⟩)
    | (go_at_call 80; (with_reducible refine (CD.out _).mono ?_); rintro e y0 ⟨rfl, rfl⟩))
  rename_i hheld
  clear hheld S0 S1 t0 t1 t2 t3 f0
  obtain ⟨V, hV⟩ : ∃ V, V = ((((W.setCell ⟨w.heap.size + 1, 0, none⟩ (.int .i64 (a / 256))).setCell ⟨w.heap.size + 1, 1, none⟩ (.int .i64 (m / 256))).setCell ⟨w.heap.size + 1, 2, none⟩ (.int .i64 H)).setCell ⟨w.heap.size + 1, 3, none⟩ (.int .i64 (d / 256))) := ⟨_, rfl⟩
  rw [← hV] at KT KB ⊢
  clear hV
  obtain ⟨k0, k1, k2, k3⟩ := (show TBk 26 V.drew (w.heap.size + 1) (a / 256) (m / 256) H (d / 256) from KT.out).cells
  have KB2 := Lib.hid (KB.out.drew)
  go_wp2_with fail
  exact bodyPost_ret (v := tv (a / 256) (m / 256) H (d / 256)) (by simp [results, Try.results66, go_sem, k0, k1, k2, k3]) rfl ⟨rfl, KB2.out⟩

theorem brole_w (n : Int) (w : World) :
    Calls Try.prog 47 #[.int .i64 n] w fun e w' => e = .returned (.int .i64 (roleF n)) ∧ w = w' := by
  go_enter Try.func47, Try.ntmps47
  go_wp2
  go_ret
  exact ⟨ret_int (and_3 _), rfl⟩

theorem has_any (k f r c b p a m h d : Int) (n : Nat) (w : World) (hn : n < 8) :
    Calls Try.prog 70 #[bv k f r c b p a m h d, .int .i64 (n : Nat)] w fun e w' => e = .returned (.bool (bitB f n)) ∧ Below w.heap.size w w' := by
  have hn0 : (0 : Int) ≤ n := by omega
  have hn8 : (n : Int) < 64 := by omega
  unfold bv
  go_enter Try.func70, Try.ntmps70
  go_wp2
  all_goals go_ret
  have hb := and_bit (f / 2 ^ n) 0 (by omega)
  exact ⟨ret_bool (by simpa [bitB] using hb), below_box _ _⟩

theorem has_w (k f r c b p a m h d : Int) (n : Nat) (N : Int) (B : Bool) (w : World) (hN : N = (n : Nat)) (hn : n < 8) (hB : Hid (bitB f n = B)) :
    Calls Try.prog 70 #[bv k f r c b p a m h d, .int .i64 N] w fun e w' => e = .returned (.bool B) ∧ Below w.heap.size w w' := by
  subst hN
  rw [← hB.out]
  exact has_any k f r c b p a m h d n w hn

set_option maxHeartbeats 400000 in
theorem holds_w (a m h d R : Int) (w : World) (ha : 0 ≤ a ∧ a < 1000) (hm : 0 ≤ m ∧ m < 1000) (hh : 0 ≤ h ∧ h < 1000) (hR : Hid ((if a + 1 > m then 0 else 3 * h) = R)) :
    Calls Try.prog 72 #[tv a m h d] w fun e w' => e = .returned (.int .i64 R) ∧ Below w.heap.size w w' := by
  rw [← hR.out]
  clear hR
  unfold tv
  go_enter Try.func72, Try.ntmps72
  go_wp2
  all_goals go_ret
  all_goals refine ⟨ret_int ?_, below_box _ _⟩
  all_goals first
    | rfl
    | (rw [if_pos (by omega)])
    | (rw [if_neg (by omega)])

end Go.Proofs.Ytbiggckddoeghaa
