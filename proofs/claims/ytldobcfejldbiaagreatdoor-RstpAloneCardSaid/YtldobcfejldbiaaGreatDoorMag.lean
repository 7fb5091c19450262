/-
  Layer 11: what is asked of a BPDU and of times (no port in it): Supersedes, ticks, TimesOf, Role, has, holds.
  Layer 10, as layer 11 asks it: what was heard, of a port and a BPDU that is right and no notice.
  Layer 11: deeds that go by a BPDU: heedTc, record, dispute, agree, giveWay; what meet and answer hand back; settle.
-/
import Derived.Test.YtldobcfejldbiaaGreatDoorMaf
namespace Go.Proofs.YtldobcfejldbiaaGreatDoor
set_option linter.unusedVariables false
set_option linter.unusedSimpArgs false
open Go.RowKit Vm Rm Bm Im

set_option maxHeartbeats 400000 in
theorem sent_any (r c b p : Int) (w : World) (hb : Vm.u64B b) (hp : Vm.u64B p) :
    Calls Tryz.prog 200 #[vv r c b p] w fun e w' => e = .returned (.agg #[.int .u64 (b % 281474976710656), .int .u64 (p % 4096)]) ∧ Below w.heap.size w w' := by
  go_enter Tryz.func200, Tryz.ntmps200
  go_wp2
  rw [mask_48 b hb, mask_12 p hp]
  obtain ⟨W, hW⟩ : ∃ W, W = (w.alloc (.cells #[.int .u64 r, .int .u64 c, .int .u64 b, .int .u64 p] 47)).alloc (.cells #[.int .u64 (b % 281474976710656), .int .u64 (p % 4096)] 239) := ⟨_, rfl⟩
  have k : W.heap[w.heap.size + 1]? = some (.cells #[.int .u64 (b % 281474976710656), .int .u64 (p % 4096)] 239 (0, 0)) := by rw [hW, ← size_box w (.cells #[.int .u64 r, .int .u64 c, .int .u64 b, .int .u64 p] 47)]; exact heap_alloc_new (w.alloc _) _
  have k0 : W.cell? ⟨w.heap.size + 1, 0, none⟩ = some (.int .u64 (b % 281474976710656)) := by simp [World.cell?, k]
  have k1 : W.cell? ⟨w.heap.size + 1, 1, none⟩ = some (.int .u64 (p % 4096)) := by simp [World.cell?, k]
  have B : Below w.heap.size w W := by rw [hW]; exact bw_alloc (below_box _ _) _
  rw [← hW]
  clear hW k
  exact bodyPost_ret (v := .agg #[.int .u64 (b % 281474976710656), .int .u64 (p % 4096)]) (by simp [results, Tryz.results200, go_sem, k0, k1]) rfl ⟨rfl, B⟩
theorem better_w (r c b p r' c' b' p' : Int) (R : Bool) (w : World) (hR : Hid (decide (cmpR ⟨r, c, b, p⟩ ⟨r', c', b', p'⟩ < 0) = R)) :
    Calls Tryz.prog 199 #[vv r c b p, vv r' c' b' p'] w fun e w' => e = .returned (.bool R) ∧ Below w.heap.size w w' := by
  obtain ⟨X, hX⟩ : ∃ X, cmpR ⟨r, c, b, p⟩ ⟨r', c', b', p'⟩ = X := ⟨_, rfl⟩
  have e := hR.out
  rw [hX] at e
  subst e
  clear hR
  have HX := Lib.hid hX; clear hX
  go_enter Tryz.func199, Tryz.ntmps199
  go_wp2_with fail
  refine (compare_w r c b p r' c' b' p' X _ HX).mono ?_
  rintro e w1 ⟨rfl, hb1⟩
  have B1 := bw_trans (bw_alloc (below_box w _) _) hb1
  clear hb1
  go_wp2
  all_goals go_ret
  exact ⟨rfl, B1⟩

theorem run_sndEq (x y x' y' : Int) (w : World) :
    Sem.run Tryz.prog (binOp .eql 239 (.agg #[.int .u64 x, .int .u64 y]) (.agg #[.int .u64 x', .int .u64 y'])) w = .ok (.bool (decide (x = x' ∧ y = y'))) w := by
  go_simp
  repeat' split
  all_goals simp_all

/-- The cells of two vectors. -/
abbrev Two (w : World) (b1 b2 : Nat) (r c b p r' c' b' p' : Int) : Prop :=
  (w.cell? ⟨b1, 0, none⟩ = some (.int .u64 r) ∧ w.cell? ⟨b1, 1, none⟩ = some (.int .u64 c) ∧ w.cell? ⟨b1, 2, none⟩ = some (.int .u64 b) ∧ w.cell? ⟨b1, 3, none⟩ = some (.int .u64 p)) ∧ (w.cell? ⟨b2, 0, none⟩ = some (.int .u64 r') ∧ w.cell? ⟨b2, 1, none⟩ = some (.int .u64 c') ∧ w.cell? ⟨b2, 2, none⟩ = some (.int .u64 b') ∧ w.cell? ⟨b2, 3, none⟩ = some (.int .u64 p'))

set_option maxHeartbeats 1000000 in
theorem super_w (r c b p r' c' b' p' : Int) (R : Bool) (w : World) (hR : Hid (superB ⟨r, c, b, p⟩ ⟨r', c', b', p'⟩ = R)) (hb : Vm.u64B b) (hp : Vm.u64B p) (hb' : Vm.u64B b') (hp' : Vm.u64B p') :
    Calls Tryz.prog 167 #[vv r c b p, vv r' c' b' p'] w fun e w' => e = .returned (.bool R) ∧ Below w.heap.size w w' := by
  have C1 := Lib.hid (fun w' => sent_any r c b p w' hb hp)
  have C2 := Lib.hid (fun w' => sent_any r' c' b' p' w' hb' hp')
  clear hb hp hb' hp'
  have hq := run_sndEq (b % 281474976710656) (p % 4096) (b' % 281474976710656) (p' % 4096)
  go_enter Tryz.func167, Tryz.ntmps167
  go_upto_region 1 with (fail)
  obtain ⟨W, hW⟩ : ∃ W, W = (w.alloc (.cells #[.int .u64 r, .int .u64 c, .int .u64 b, .int .u64 p] 47)).alloc (.cells #[.int .u64 r', .int .u64 c', .int .u64 b', .int .u64 p'] 47) := ⟨_, rfl⟩
  have kW : Blk 47 W w.heap.size ⟨r, c, b, p⟩ := by rw [hW]; exact (blk_new 47 w r c b p).next (below_box _ _)
  have mW : Blk 47 W (w.heap.size + 1) ⟨r', c', b', p'⟩ := by
    have := blk_new 47 (w.alloc (.cells #[.int .u64 r, .int .u64 c, .int .u64 b, .int .u64 p] 47)) r' c' b' p'
    rw [size_box] at this
    rw [hW]; exact this
  have BW : Below w.heap.size w W := by rw [hW]; exact bw_alloc (below_box _ _) _
  rw [← hW]
  clear hW
  have lk := kW.lt
  have lm := mW.lt
  have S0 : Two W w.heap.size (w.heap.size + 1) r c b p r' c' b' p' := ⟨kW.cells, mW.cells⟩
  cases hz : decide (cmpR ⟨r, c, b, p⟩ ⟨r', c', b', p'⟩ < 0) with
  | true =>
    have e : R = true := by rw [← hR.out]; simp only [superB, hz, Bool.true_or]
    subst e
    have C0 := Lib.hid (fun w' => better_w r c b p r' c' b' p' true w' (Lib.hid hz))
    clear hz hR C1 C2 hq
    obtain ⟨⟨c0, c1, c2, c3⟩, ⟨d0, d1, d2, d3⟩⟩ := S0
    go_region_with (go_at_call 199; (with_reducible refine (C0.out _).mono ?_); rintro e y0 ⟨rfl, hb0⟩)
    all_goals go_wp2_with fail
    all_goals go_ret
    all_goals exact ⟨rfl, bw_trans BW (((Below.refl W.heap.size W).drew).trans hb0)⟩
  | false =>
    have e : R = sameB ⟨r, c, b, p⟩ ⟨r', c', b', p'⟩ := by rw [← hR.out]; simp only [superB, hz, Bool.false_or]
    subst e
    have C0 := Lib.hid (fun w' => better_w r c b p r' c' b' p' false w' (Lib.hid hz))
    clear hz hR
    go_region_held3 (fun w' => Two w' w.heap.size (w.heap.size + 1) r c b p r' c' b' p') (first | exact S0 | exact T0 | exact T1 | exact T2) (first
      | (go_at_call 199; (with_reducible refine (C0.out _).mono ?_); rintro e y0 ⟨rfl, hb0⟩; have D0 := ((Below.refl W.heap.size W).drew).trans hb0; have T0 : Two y0 w.heap.size (w.heap.size + 1) r c b p r' c' b' p' := ⟨(kW.below D0 lk).cells, (mW.below D0 lm).cells⟩)
      | (go_at_call 200; (with_reducible refine (C1.out _).mono ?_); rintro e y1 ⟨rfl, hb1⟩; have D1 := bw_trans D0 hb1; have T1 : Two y1 w.heap.size (w.heap.size + 1) r c b p r' c' b' p' := ⟨(kW.below D1 lk).cells, (mW.below D1 lm).cells⟩)
      | (go_at_call 200; (with_reducible refine (C2.out _).mono ?_); rintro e y2 ⟨rfl, hb2⟩; have D2 := bw_trans D1 hb2; have T2 : Two y2 w.heap.size (w.heap.size + 1) r c b p r' c' b' p' := ⟨(kW.below D2 lk).cells, (mW.below D2 lm).cells⟩))
    all_goals go_wp2_with fail
    all_goals go_ret
    all_goals exact ⟨ret_bool (by simp [sameB]), bw_trans BW D2⟩


abbrev tv (a m h d : Int) : Value := .agg #[.int .i64 a, .int .i64 m, .int .i64 h, .int .i64 d]
theorem run_tmEq (a m h d a' m' h' d' : Int) (w : World) :
    Sem.run Tryz.prog (binOp .eql 24 (tv a m h d) (tv a' m' h' d')) w = .ok (.bool (decide ((⟨a, m, h, d⟩ : Tm) = ⟨a', m', h', d'⟩))) w := by
  unfold tv
  go_simp
  repeat' split
  all_goals simp_all
theorem run_tmNe (a m h d a' m' h' d' : Int) (w : World) :
    Sem.run Tryz.prog (binOp .neq 24 (tv a m h d) (tv a' m' h' d')) w = .ok (.bool (!decide ((⟨a, m, h, d⟩ : Tm) = ⟨a', m', h', d'⟩))) w := by
  unfold tv
  go_simp
  repeat' split
  all_goals simp_all
theorem run_vcNe (r c b p r' c' b' p' : Int) (w : World) :
    Sem.run Tryz.prog (binOp .neq 47 (vv r c b p) (vv r' c' b' p')) w = .ok (.bool (!decide ((⟨r, c, b, p⟩ : Vc) = ⟨r', c', b', p'⟩))) w := by
  unfold vv
  go_simp
  repeat' split
  all_goals simp_all
/-- A block of times. -/
def TBk (T : TypeId) (w : World) (b : Nat) (a m h d : Int) : Prop := w.heap[b]? = some (.cells #[.int .i64 a, .int .i64 m, .int .i64 h, .int .i64 d] T (0, 0))
section
variable {T : TypeId} {w w' : World} {b : Nat} {a m h d : Int}
theorem TBk.lt (H : TBk T w b a m h d) : b < w.heap.size := (Array.getElem?_eq_some_iff.1 H).1
theorem TBk.next (H : TBk T w b a m h d) (hb : Below w.heap.size w w') : TBk T w' b a m h d := (hb.block b H.lt).trans H
theorem TBk.cells (H : TBk T w b a m h d) : w.cell? ⟨b, 0, none⟩ = some (.int .i64 a) ∧ w.cell? ⟨b, 1, none⟩ = some (.int .i64 m) ∧ w.cell? ⟨b, 2, none⟩ = some (.int .i64 h) ∧ w.cell? ⟨b, 3, none⟩ = some (.int .i64 d) := by
  unfold TBk at H
  refine ⟨?_, ?_, ?_, ?_⟩ <;> simp [World.cell?, H]
theorem TBk.free (H : TBk T w b a m h d) (j : Nat) : w.frozen? ⟨b, j, none⟩ = false := by
  unfold TBk at H
  simp [World.frozen?, H]
theorem tbk_new (T : TypeId) (w : World) (a m h d : Int) : TBk T (w.alloc (.cells #[.int .i64 a, .int .i64 m, .int .i64 h, .int .i64 d] T)) w.heap.size a m h d := heap_alloc_new w _
theorem TBk.set4 (H : TBk T w b a m h d) (a' m' h' d' : Int) : TBk T ((((w.setCell ⟨b, 0, none⟩ (.int .i64 a')).setCell ⟨b, 1, none⟩ (.int .i64 m')).setCell ⟨b, 2, none⟩ (.int .i64 h')).setCell ⟨b, 3, none⟩ (.int .i64 d')) b a' m' h' d' := by
  unfold TBk at H ⊢
  exact blk_set (blk_set (blk_set (blk_set H rfl) rfl) rfl) rfl
theorem TBk.far (H : TBk T w b a m h d) {c : Nat} (j : Nat) (v : Value) (hne : b ≠ c) : TBk T (w.setCell ⟨c, j, none⟩ v) b a m h d := (Below.heap_setCell w ⟨c, j, none⟩ v b hne).trans H
end
theorem ret_val {a b : Value} (h : a = b) : Ending.returned a = .returned b := by rw [h]

theorem ticks_any (n : Int) (w : World) :
    Calls Tryz.prog 197 #[.int .i64 n] w fun e w' => e = .returned (.int .i64 (n / 256)) ∧ w = w' := by
  go_enter Tryz.func197, Tryz.ntmps197
  go_wp2
  all_goals go_ret
  all_goals exact ⟨ret_int (by first | rfl | omega | simp), rfl⟩

theorem hello_w (n H : Int) (w : World) (h0 : 0 ≤ n) (hH : Hid ((if n / 256 < 1 then 1 else n / 256) = H)) :
    Calls Tryz.prog 198 #[.int .i64 n] w fun e w' => e = .returned (.int .i64 H) ∧ w = w' := by
  rw [← hH.out]
  clear hH
  by_cases hz : n / 256 = 0
  · have z : (n / 256 != 0) = false := by simp [hz]
    go_enter Tryz.func198, Tryz.ntmps198
    go_wp2_with fail
    refine (ticks_any n _).mono ?_
    rintro e w1 ⟨rfl, rfl⟩
    go_wp2
    all_goals go_ret
    all_goals exact ⟨ret_int (by first | rfl | rw [if_pos (by omega)]), rfl⟩
  · have z : (n / 256 != 0) = true := bne_iff_ne.2 hz
    go_enter Tryz.func198, Tryz.ntmps198
    go_wp2_with fail
    refine (ticks_any n _).mono ?_
    rintro e w1 ⟨rfl, rfl⟩
    go_wp2
    all_goals go_ret
    all_goals exact ⟨ret_int (by first | rfl | rw [if_neg (by omega)]), rfl⟩

set_option maxHeartbeats 1000000 in
theorem times_w (k f r c b p a m h d H : Int) (w : World) (h0 : 0 ≤ h) (hH : Hid ((if h / 256 < 1 then 1 else h / 256) = H)) :
    Calls Tryz.prog 166 #[bv k f r c b p a m h d] w fun e w' => e = .returned (tv (a / 256) (m / 256) H (d / 256)) ∧ Below w.heap.size w w' := by
  have CA := Lib.hid (fun w' => ticks_any a w')
  have CM := Lib.hid (fun w' => ticks_any m w')
  have CD := Lib.hid (fun w' => ticks_any d w')
  have CH := Lib.hid (fun w' => hello_w h H w' h0 hH)
  clear h0 hH
  unfold bv
  go_enter Tryz.func166, Tryz.ntmps166
  go_upto_region 1 with (fail)
  obtain ⟨W, hW⟩ : ∃ W, W = (w.alloc (.cells #[.int .i64 k, .int .i64 f, .int .u64 r, .int .u64 c, .int .u64 b, .int .u64 p, .int .i64 a, .int .i64 m, .int .i64 h, .int .i64 d] 49)).alloc (.cells #[.int .i64 0, .int .i64 0, .int .i64 0, .int .i64 0] 24) := ⟨_, rfl⟩
  have kB : BBlk 49 W w.heap.size ⟨k, f, r, c, b, p, a, m, h, d⟩ := by rw [hW]; exact (bblk_new 49 w k f r c b p a m h d).next (below_box _ _)
  have kT : TBk 24 W (w.heap.size + 1) 0 0 0 0 := by
    have := tbk_new 24 (w.alloc (.cells #[.int .i64 k, .int .i64 f, .int .u64 r, .int .u64 c, .int .u64 b, .int .u64 p, .int .i64 a, .int .i64 m, .int .i64 h, .int .i64 d] 49)) 0 0 0 0
    rw [size_box] at this
    rw [hW]; exact this
  have BW : Below w.heap.size w W := by rw [hW]; exact bw_alloc (below_box _ _) _
  rw [← hW]
  clear hW
  obtain ⟨t0, t1, t2, t3⟩ := kT.cells
  have f0 := kT.free
  obtain ⟨c0, c1, c2, c3, c4, c5, c6, c7, c8, c9⟩ := kB.cells
  have ne : w.heap.size ≠ w.heap.size + 1 := by omega
  have mk : ∀ V, BBlk 49 V w.heap.size ⟨k, f, r, c, b, p, a, m, h, d⟩ → (V.cell? ⟨w.heap.size, 6, none⟩ = some (.int .i64 a) ∧ V.cell? ⟨w.heap.size, 7, none⟩ = some (.int .i64 m) ∧ V.cell? ⟨w.heap.size, 8, none⟩ = some (.int .i64 h) ∧ V.cell? ⟨w.heap.size, 9, none⟩ = some (.int .i64 d)) := fun V h => by
    obtain ⟨_, _, _, _, _, _, e6, e7, e8, e9⟩ := h.cells
    exact ⟨e6, e7, e8, e9⟩
  have S0 := mk W kB
  have S1 := mk _ ((((kB.other 0 (.int .i64 (a / 256)) ne).other 1 (.int .i64 (m / 256)) ne).other 2 (.int .i64 H) ne).other 3 (.int .i64 (d / 256)) ne)
  have KT := Lib.hid (kT.set4 (a / 256) (m / 256) H (d / 256))
  have KB := Lib.hid ((((BW.setCell (p := ⟨w.heap.size + 1, 0, none⟩) (by show _ ≤ _ + 1; omega) (.int .i64 (a / 256))).setCell (p := ⟨w.heap.size + 1, 1, none⟩) (by show _ ≤ _ + 1; omega) (.int .i64 (m / 256))).setCell (p := ⟨w.heap.size + 1, 2, none⟩) (by show _ ≤ _ + 1; omega) (.int .i64 H)).setCell (p := ⟨w.heap.size + 1, 3, none⟩) (by show _ ≤ _ + 1; omega) (.int .i64 (d / 256)))
  clear c0 c1 c2 c3 c4 c5 c6 c7 c8 c9 kB BW mk
  go_region_held3 (fun w' => w'.cell? ⟨w.heap.size, 6, none⟩ = some (.int .i64 a) ∧ w'.cell? ⟨w.heap.size, 7, none⟩ = some (.int .i64 m) ∧ w'.cell? ⟨w.heap.size, 8, none⟩ = some (.int .i64 h) ∧ w'.cell? ⟨w.heap.size, 9, none⟩ = some (.int .i64 d)) (first | exact S0 | exact S1) (first
    | (go_at_call 197; (with_reducible refine (CA.out _).mono ?_); rintro e y0 ⟨rfl, rfl⟩)
    | (go_at_call 197; (with_reducible refine (CM.out _).mono ?_); rintro e y0 ⟨rfl, rfl⟩)
    | (go_at_call 198; (with_reducible refine (CH.out _).mono ?_); rintro e y0 ⟨rfl, rfl⟩)
    | (go_at_call 197; (with_reducible refine (CD.out _).mono ?_); rintro e y0 ⟨rfl, rfl⟩))
  rename_i hheld
  clear hheld S0 S1 t0 t1 t2 t3 f0
  obtain ⟨V, hV⟩ : ∃ V, V = ((((W.setCell ⟨w.heap.size + 1, 0, none⟩ (.int .i64 (a / 256))).setCell ⟨w.heap.size + 1, 1, none⟩ (.int .i64 (m / 256))).setCell ⟨w.heap.size + 1, 2, none⟩ (.int .i64 H)).setCell ⟨w.heap.size + 1, 3, none⟩ (.int .i64 (d / 256))) := ⟨_, rfl⟩
  rw [← hV] at KT KB ⊢
  clear hV
  obtain ⟨k0, k1, k2, k3⟩ := (show TBk 24 V.drew (w.heap.size + 1) (a / 256) (m / 256) H (d / 256) from KT.out).cells
  have KB2 := Lib.hid (KB.out.drew)
  go_wp2_with fail
  exact bodyPost_ret (v := tv (a / 256) (m / 256) H (d / 256)) (by simp [results, Tryz.results166, go_sem, k0, k1, k2, k3]) rfl ⟨rfl, KB2.out⟩

theorem brole_w (n : Int) (w : World) :
    Calls Tryz.prog 127 #[.int .i64 n] w fun e w' => e = .returned (.int .i64 (roleF n)) ∧ w = w' := by
  go_enter Tryz.func127, Tryz.ntmps127
  go_wp2
  go_ret
  exact ⟨ret_int (and_3 _), rfl⟩

theorem has_any (k f r c b p a m h d : Int) (n : Nat) (w : World) (hn : n < 8) :
    Calls Tryz.prog 170 #[bv k f r c b p a m h d, .int .i64 (n : Nat)] w fun e w' => e = .returned (.bool (bitB f n)) ∧ Below w.heap.size w w' := by
  have hn0 : (0 : Int) ≤ n := by omega
  have hn8 : (n : Int) < 64 := by omega
  unfold bv
  go_enter Tryz.func170, Tryz.ntmps170
  go_wp2
  all_goals go_ret
  have hb := and_bit (f / 2 ^ n) 0 (by omega)
  exact ⟨ret_bool (by simpa [bitB] using hb), below_box _ _⟩

theorem has_w (k f r c b p a m h d : Int) (n : Nat) (N : Int) (B : Bool) (w : World) (hN : N = (n : Nat)) (hn : n < 8) (hB : Hid (bitB f n = B)) :
    Calls Tryz.prog 170 #[bv k f r c b p a m h d, .int .i64 N] w fun e w' => e = .returned (.bool B) ∧ Below w.heap.size w w' := by
  subst hN
  rw [← hB.out]
  exact has_any k f r c b p a m h d n w hn

set_option maxHeartbeats 400000 in
theorem holds_w (a m h d R : Int) (w : World) (ha : 0 ≤ a ∧ a < 1000) (hm : 0 ≤ m ∧ m < 1000) (hh : 0 ≤ h ∧ h < 1000) (hR : Hid ((if a + 1 > m then 0 else 3 * h) = R)) :
    Calls Tryz.prog 172 #[tv a m h d] w fun e w' => e = .returned (.int .i64 R) ∧ Below w.heap.size w w' := by
  rw [← hR.out]
  clear hR
  unfold tv
  go_enter Tryz.func172, Tryz.ntmps172
  go_wp2
  all_goals go_ret
  all_goals refine ⟨ret_int ?_, below_box _ _⟩
  all_goals first
    | rfl
    | (rw [if_pos (by omega)])
    | (rw [if_neg (by omega)])

end Go.Proofs.YtldobcfejldbiaaGreatDoor

namespace Go.Proofs.YtldobcfejldbiaaGreatDoor
set_option linter.unusedVariables false
set_option linter.unusedSimpArgs false
open Go.RowKit Vm Rm Bm Im

/-- A port's timers, and how many it sent, are of their kinds. -/
structure TkOk (p : Pt) : Prop where
  fd : inI64 p.fd
  rr : inI64 p.rr
  rb : inI64 p.rb
  tc : inI64 p.tc
  edge : inI64 p.edge
  md : inI64 p.md
  info : inI64 p.info
  hello : inI64 p.hello
  txCount : inI64 p.txCount
/-- A port's numbers are of their kinds. -/
structure PtOk (p : Pt) : Prop where
  tk : TkOk p
  id : Vm.u64B p.id
  cost : Vm.u64B p.cost
  source : inI64 p.source
  vec : p.vec.ok
  age : inI64 p.times.age
/-- A BPDU's numbers are of their kinds. -/
structure BpOk (q : Bp) : Prop where
  root : Vm.u64B q.root
  cost : Vm.u64B q.cost
  bridge : Vm.u64B q.bridge
  port : Vm.u64B q.port
def bcells (q : Bp) : Array Value := #[.int .i64 q.kind, .int .i64 q.flags, .int .u64 q.root, .int .u64 q.cost, .int .u64 q.bridge, .int .u64 q.port, .int .i64 q.age, .int .i64 q.max, .int .i64 q.hello, .int .i64 q.delay]
theorem pb_is (T T' : TypeId) (w : World) (p : Pt) (q : Bp) : ∃ (W : World) (nb : Nat), Hid (((w.alloc (.cells (cellsT p) T)).alloc (.cells (bcells q) T')) = W) ∧ Hid (w.heap.size = nb) ∧ PtBlk T W nb p ∧ BBlk T' W (nb + 1) q ∧ Below nb w W := by
  refine ⟨_, _, Lib.hid rfl, Lib.hid rfl, ?_, ?_, ?_⟩
  · exact heap_alloc2_old w _ _
  · exact heap_alloc2_new w _ _
  · exact bw_alloc (below_box w _) _
/-- What a walk reads of a port's vector and times, and of a BPDU's. -/
def RdP (w : World) (b : Nat) (p : Pt) : Prop :=
  w.cell? ⟨b, 6, none⟩ = some (.int .u64 p.vec.root) ∧ w.cell? ⟨b, 7, none⟩ = some (.int .u64 p.vec.cost) ∧ w.cell? ⟨b, 8, none⟩ = some (.int .u64 p.vec.bridge) ∧ w.cell? ⟨b, 9, none⟩ = some (.int .u64 p.vec.port) ∧ w.cell? ⟨b, 10, none⟩ = some (.int .i64 p.times.age) ∧ w.cell? ⟨b, 11, none⟩ = some (.int .i64 p.times.max) ∧ w.cell? ⟨b, 12, none⟩ = some (.int .i64 p.times.hello) ∧ w.cell? ⟨b, 13, none⟩ = some (.int .i64 p.times.delay)
theorem PtBlk.rd {T : TypeId} {w : World} {b : Nat} {p : Pt} (h : PtBlk T w b p) : RdP w b p := ⟨h.c_vec_root, h.c_vec_cost, h.c_vec_bridge, h.c_vec_port, h.c_times_age, h.c_times_max, h.c_times_hello, h.c_times_delay⟩
theorem BBlk.rd {T : TypeId} {w : World} {b : Nat} {q : Bp} (h : BBlk T w b q) : BBoxed w b q.kind q.flags q.root q.cost q.bridge q.port q.age q.max q.hello q.delay := BBlk.cells (by cases q; exact h)
/-- What was heard of a designated port. -/
def desP (p : Pt) (q : Bp) : Int := if p.source = 3 ∧ vecOf q = p.vec ∧ timesOf q = p.times then 2 else if superB (vecOf q) p.vec = true then 1 else 3


set_option maxRecDepth 20000 in
set_option maxHeartbeats 1000000 in
theorem des_other_w (p : Pt) (q : Bp) (R : Bool) (w : World) (hv : ¬ vecOf q = p.vec) (hR : Hid (superB (vecOf q) p.vec = R)) (ho : p.vec.ok) (hq : BpOk q) :
    Calls Tryz.prog 128 #[.agg (cellsT p), bv q.kind q.flags q.root q.cost q.bridge q.port q.age q.max q.hello q.delay] w fun e w' => e = .returned (.int .i64 (if R = true then 1 else 3)) ∧ Below w.heap.size w w' := by
  obtain ⟨W, nb, HW, HN, k0, k1, kB⟩ := pb_is 78 49 w p q
  have K0 := Lib.hid k0
  have K1 := Lib.hid k1
  have KB := Lib.hid kB
  have hsz := k1.lt
  have CS := Lib.hid (fun w' => super_w q.root q.cost q.bridge q.port p.vec.root p.vec.cost p.vec.bridge p.vec.port R w' hR hq.bridge hq.port ho.b ho.p)
  have hE := run_vcEq q.root q.cost q.bridge q.port p.vec.root p.vec.cost p.vec.bridge p.vec.port
  rw [show decide ((⟨q.root, q.cost, q.bridge, q.port⟩ : Vc) = ⟨p.vec.root, p.vec.cost, p.vec.bridge, p.vec.port⟩) = false from decide_eq_false hv] at hE
  obtain ⟨p6, p7, p8, p9, p10, p11, p12, p13⟩ := k0.rd
  obtain ⟨c0, c1, c2, c3, c4, c5, c6, c7, c8, c9⟩ := k1.rd
  have p5 := k0.c_source
  clear k0 k1 kB hv ho hq hR
  unfold bv
  go_enter Tryz.func128, Tryz.ntmps128
  go_upto_region 1 with (fail)
  refine wp_to (W := W) (by exact HW.out.symm) ?_
  rw [HN.out]
  go_quiet (fail)
  go_wp2_with fail
  (with_reducible refine (CS.out _).mono ?_)
  rintro e w1 ⟨rfl, hb1⟩
  have HB := Lib.hid ((below_drewN KB.out _).trans (hb1.mono (by show nb ≤ W.heap.size; omega)))
  clear hb1
  cases R
  all_goals go_wp2
  all_goals go_ret
  all_goals exact ⟨rfl, HN.out ▸ HB.out⟩


set_option maxRecDepth 20000 in
set_option maxHeartbeats 1000000 in
theorem des_same_w (p : Pt) (q : Bp) (B R : Bool) (w : World) (hv : vecOf q = p.vec) (hB : Hid (decide (timesOf q = p.times) = B)) (hR : Hid (superB (vecOf q) p.vec = R)) (ho : p.vec.ok) (hq : BpOk q) (h0 : 0 ≤ q.hello) :
    Calls Tryz.prog 128 #[.agg (cellsT p), bv q.kind q.flags q.root q.cost q.bridge q.port q.age q.max q.hello q.delay] w fun e w' => e = .returned (.int .i64 (if (B && decide (p.source = 3)) = true then 2 else if R = true then 1 else 3)) ∧ Below w.heap.size w w' := by
  obtain ⟨W, nb, HW, HN, k0, k1, kB⟩ := pb_is 78 49 w p q
  have K0 := Lib.hid k0
  have K1 := Lib.hid k1
  have KB := Lib.hid kB
  have hsz := k1.lt
  obtain ⟨H, hH⟩ : ∃ H, (if q.hello / 256 < 1 then 1 else q.hello / 256) = H := ⟨_, rfl⟩
  have CS := Lib.hid (fun w' => super_w q.root q.cost q.bridge q.port p.vec.root p.vec.cost p.vec.bridge p.vec.port R w' hR hq.bridge hq.port ho.b ho.p)
  have CT := Lib.hid (fun w' => times_w q.kind q.flags q.root q.cost q.bridge q.port q.age q.max q.hello q.delay H w' h0 (Lib.hid hH))
  have hE := run_vcEq q.root q.cost q.bridge q.port p.vec.root p.vec.cost p.vec.bridge p.vec.port
  rw [show decide ((⟨q.root, q.cost, q.bridge, q.port⟩ : Vc) = ⟨p.vec.root, p.vec.cost, p.vec.bridge, p.vec.port⟩) = true from decide_eq_true hv] at hE
  have hT := run_tmEq (q.age / 256) (q.max / 256) H (q.delay / 256) p.times.age p.times.max p.times.hello p.times.delay
  rw [show decide ((⟨q.age / 256, q.max / 256, H, q.delay / 256⟩ : Tm) = ⟨p.times.age, p.times.max, p.times.hello, p.times.delay⟩) = B by rw [← hB.out]; unfold timesOf; rw [hH]] at hT
  obtain ⟨c0, c1, c2, c3, c4, c5, c6, c7, c8, c9⟩ := k1.rd
  have mk : ∀ V, PtBlk 78 V nb p → BBlk 49 V (nb + 1) q → (RdP V nb p ∧ BBoxed V (nb + 1) q.kind q.flags q.root q.cost q.bridge q.port q.age q.max q.hello q.delay) := fun V h k => ⟨h.rd, k.rd⟩
  have S0 := mk W k0 k1
  have p5 := Lib.hid (k0.c_source)
  clear k0 k1 kB hv ho hq hR h0 hH hB c0 c1 c2 c3 c4 c5 c6 c7 c8 c9
  unfold RdP BBoxed at S0 mk
  unfold bv at CT ⊢
  unfold tv at CT hT
  go_enter Tryz.func128, Tryz.ntmps128
  go_upto_region 1 with (fail)
  refine wp_to (W := W) (by exact HW.out.symm) ?_
  rw [HN.out]
  go_region_held3 (fun w' => (w'.cell? ⟨nb, 6, none⟩ = some (.int .u64 p.vec.root) ∧ w'.cell? ⟨nb, 7, none⟩ = some (.int .u64 p.vec.cost) ∧ w'.cell? ⟨nb, 8, none⟩ = some (.int .u64 p.vec.bridge) ∧ w'.cell? ⟨nb, 9, none⟩ = some (.int .u64 p.vec.port) ∧ w'.cell? ⟨nb, 10, none⟩ = some (.int .i64 p.times.age) ∧ w'.cell? ⟨nb, 11, none⟩ = some (.int .i64 p.times.max) ∧ w'.cell? ⟨nb, 12, none⟩ = some (.int .i64 p.times.hello) ∧ w'.cell? ⟨nb, 13, none⟩ = some (.int .i64 p.times.delay)) ∧ (w'.cell? ⟨nb + 1, 0, none⟩ = some (.int .i64 q.kind) ∧ w'.cell? ⟨nb + 1, 1, none⟩ = some (.int .i64 q.flags) ∧ w'.cell? ⟨nb + 1, 2, none⟩ = some (.int .u64 q.root) ∧ w'.cell? ⟨nb + 1, 3, none⟩ = some (.int .u64 q.cost) ∧ w'.cell? ⟨nb + 1, 4, none⟩ = some (.int .u64 q.bridge) ∧ w'.cell? ⟨nb + 1, 5, none⟩ = some (.int .u64 q.port) ∧ w'.cell? ⟨nb + 1, 6, none⟩ = some (.int .i64 q.age) ∧ w'.cell? ⟨nb + 1, 7, none⟩ = some (.int .i64 q.max) ∧ w'.cell? ⟨nb + 1, 8, none⟩ = some (.int .i64 q.hello) ∧ w'.cell? ⟨nb + 1, 9, none⟩ = some (.int .i64 q.delay))) (first | exact S0 | exact S1) (first
    | (go_at_call 166; (with_reducible refine (CT.out _).mono ?_); rintro e y0 ⟨rfl, hb0⟩; have D0 := ((Below.refl W.heap.size W).drew).trans hb0; have S1 := mk y0 (K0.out.next D0) (K1.out.next D0)))
  rename_i hheld
  have q5 := (K0.out.next D0).c_source
  have D1 := Lib.hid (KB.out.trans (D0.mono (by omega)))
  have hsy := D0.size
  clear hheld S0 hb0 mk CT hT hE D0 p5
  obtain ⟨⟨r6, r7, r8, r9, r10, r11, r12, r13⟩, ⟨d0, d1, d2, d3, d4, d5, d6, d7, d8, d9⟩⟩ := S1
  cases B
  · go_wp2_with fail
    (with_reducible refine (CS.out _).mono ?_)
    rintro e w1 ⟨rfl, hb1⟩
    have HB := Lib.hid (D1.out.trans (hb1.mono (by show nb ≤ y0.heap.size; omega)))
    clear hb1
    cases R
    all_goals go_wp2
    all_goals go_ret
    all_goals exact ⟨ret_int (by simp_all), HN.out ▸ HB.out⟩
  · by_cases hs : p.source = 3
    · have z : (p.source == 3) = true := beq_iff_eq.2 hs
      go_wp2
      all_goals go_ret
      all_goals exact ⟨ret_int (by simp_all), HN.out ▸ D1.out⟩
    · have z : (p.source == 3) = false := beq_eq_false_iff_ne.2 hs
      go_wp2_with fail
      (with_reducible refine (CS.out _).mono ?_)
      rintro e w1 ⟨rfl, hb1⟩
      have HB := Lib.hid (D1.out.trans (hb1.mono (by show nb ≤ y0.heap.size; omega)))
      clear hb1
      cases R
      all_goals go_wp2
      all_goals go_ret
      all_goals exact ⟨ret_int (by simp_all), HN.out ▸ HB.out⟩

theorem des_w (p : Pt) (q : Bp) (R : Int) (w : World) (hR : Hid (desP p q = R)) (ho : p.vec.ok) (hq : BpOk q) (h0 : 0 ≤ q.hello) :
    Calls Tryz.prog 128 #[.agg (cellsT p), bv q.kind q.flags q.root q.cost q.bridge q.port q.age q.max q.hello q.delay] w fun e w' => e = .returned (.int .i64 R) ∧ Below w.heap.size w w' := by
  rw [← hR.out]
  unfold desP
  by_cases hv : vecOf q = p.vec
  · refine (des_same_w p q _ _ w hv (Lib.hid rfl) (Lib.hid rfl) ho hq h0).mono ?_
    rintro e w1 ⟨rfl, hb⟩
    refine ⟨ret_int ?_, hb⟩
    by_cases h3 : p.source = 3 <;> by_cases ht : timesOf q = p.times <;> simp [hv, h3, ht]
  · refine (des_other_w p q _ w hv (Lib.hid rfl) ho hq).mono ?_
    rintro e w1 ⟨rfl, hb⟩
    exact ⟨ret_int (if_neg (fun c => hv c.2.1)).symm, hb⟩


set_option maxRecDepth 20000 in
set_option maxHeartbeats 1000000 in
theorem heard_des_w (p : Pt) (q : Bp) (R : Int) (w : World) (hR : Hid (desP p q = R)) (hd : q.kind = 1 ∨ roleF q.flags = 3) (hb : rightB q = true) (ho : p.vec.ok) (hq : BpOk q) (h0 : 0 ≤ q.hello) :
    Calls Tryz.prog 83 #[.agg (cellsT p), bv q.kind q.flags q.root q.cost q.bridge q.port q.age q.max q.hello q.delay] w fun e w' => e = .returned (.int .i64 R) ∧ Below w.heap.size w w' := by
  obtain ⟨W, nb, HW, HN, k0, k1, kB⟩ := pb_is 78 49 w p q
  have K0 := Lib.hid k0
  have K1 := Lib.hid k1
  have KB := Lib.hid kB
  have hsz := k1.lt
  have CR := Lib.hid (fun w' => by
    have h := right_any q.kind q.flags q.root q.cost q.bridge q.port q.age q.max q.hello q.delay w'
    rw [show rightB ⟨q.kind, q.flags, q.root, q.cost, q.bridge, q.port, q.age, q.max, q.hello, q.delay⟩ = true from hb] at h
    exact h)
  have CO := Lib.hid (fun w' => brole_w q.flags w')
  obtain ⟨c0, c1, c2, c3, c4, c5, c6, c7, c8, c9⟩ := k1.rd
  have CD := Lib.hid (fun w' => des_w p q R w' hR ho hq h0)
  clear hR ho hq h0
  clear k0 k1 kB hb
  unfold bv at CR ⊢
  go_enter Tryz.func83, Tryz.ntmps83
  go_upto_region 1 with (fail)
  refine wp_to (W := W) (by exact HW.out.symm) ?_
  rw [HN.out]
  go_wp2_with fail
  (with_reducible refine (CR.out _).mono ?_)
  rintro e w1 ⟨rfl, hb1⟩
  have D1 := Lib.hid (KB.out.trans (hb1.mono (by omega)))
  have L0 := Lib.hid (K0.out.next hb1)
  have L1 := Lib.hid (K1.out.next hb1)
  have hsz1 := hb1.size
  clear hb1 c0 c1 c2 c3 c4 c5 c6 c7 c8 c9
  obtain ⟨c0, c1, c2, c3, c4, c5, c6, c7, c8, c9⟩ := L1.out.rd
  go_wp2_with fail
  (with_reducible refine (CO.out _).mono ?_)
  rintro e w1 ⟨rfl, rfl⟩
  by_cases hk : q.kind = 1
  · have z : (q.kind == 1) = true := beq_iff_eq.2 hk
    have hl := Lib.hid (fun w' (h : PtBlk 78 w' nb p) => h.loads)
    clear hd hk
    go_upto_region 5 with (fail)
    refine wp_region_list ?_
    refine wpList_load_row rfl 78 _ rfl nb rfl 78 (cellsT p) (0, 0) _ L0.out rfl rfl infoSP ?_
    go_wp2_with fail
    refine (CD.out _).mono ?_
    rintro e w2 ⟨rfl, hb2⟩
    have D2 := Lib.hid (D1.out.trans (hb2.mono (by omega)))
    clear hb2
    go_wp2
    all_goals go_ret
    all_goals exact ⟨rfl, HN.out ▸ D2.out⟩
  · have z : (q.kind == 1) = false := beq_eq_false_iff_ne.2 hk
    have z3 : (roleF q.flags == 3) = true := beq_iff_eq.2 (by rcases hd with h | h; exact absurd h hk; exact h)
    clear hd hk
    go_upto_region 5 with (fail)
    refine wp_region_list ?_
    refine wpList_load_row rfl 78 _ rfl nb rfl 78 (cellsT p) (0, 0) _ L0.out rfl rfl infoSP ?_
    go_wp2_with fail
    refine (CD.out _).mono ?_
    rintro e w2 ⟨rfl, hb2⟩
    have D2 := Lib.hid (D1.out.trans (hb2.mono (by omega)))
    clear hb2
    go_wp2
    all_goals go_ret
    all_goals exact ⟨rfl, HN.out ▸ D2.out⟩

set_option maxRecDepth 20000 in
set_option maxHeartbeats 1000000 in
theorem heard_not_w (p : Pt) (q : Bp) (R : Int) (w : World) (hR : Hid ((if ¬ roleF q.flags = 0 ∧ ¬ cmpR (vecOf q) p.vec = -1 then 4 else 0) = R)) (hd : ¬ (q.kind = 1 ∨ roleF q.flags = 3)) (hb : rightB q = true) (ho : p.vec.ok) (hq : BpOk q) (h0 : 0 ≤ q.hello) :
    Calls Tryz.prog 83 #[.agg (cellsT p), bv q.kind q.flags q.root q.cost q.bridge q.port q.age q.max q.hello q.delay] w fun e w' => e = .returned (.int .i64 R) ∧ Below w.heap.size w w' := by
  obtain ⟨W, nb, HW, HN, k0, k1, kB⟩ := pb_is 78 49 w p q
  have K0 := Lib.hid k0
  have K1 := Lib.hid k1
  have KB := Lib.hid kB
  have hsz := k1.lt
  have CR := Lib.hid (fun w' => by
    have h := right_any q.kind q.flags q.root q.cost q.bridge q.port q.age q.max q.hello q.delay w'
    rw [show rightB ⟨q.kind, q.flags, q.root, q.cost, q.bridge, q.port, q.age, q.max, q.hello, q.delay⟩ = true from hb] at h
    exact h)
  have CO := Lib.hid (fun w' => brole_w q.flags w')
  obtain ⟨c0, c1, c2, c3, c4, c5, c6, c7, c8, c9⟩ := k1.rd
  obtain ⟨C, hC⟩ : ∃ C, cmpR (vecOf q) p.vec = C := ⟨_, rfl⟩
  have hrange := cmp_range (vecOf q) p.vec
  have CC := Lib.hid (fun w' => compare_w q.root q.cost q.bridge q.port p.vec.root p.vec.cost p.vec.bridge p.vec.port C w' (Lib.hid hC))
  rw [hC] at hrange hR
  clear ho hq h0 hC
  clear k0 k1 kB hb
  unfold bv at CR ⊢
  go_enter Tryz.func83, Tryz.ntmps83
  go_upto_region 1 with (fail)
  refine wp_to (W := W) (by exact HW.out.symm) ?_
  rw [HN.out]
  go_wp2_with fail
  (with_reducible refine (CR.out _).mono ?_)
  rintro e w1 ⟨rfl, hb1⟩
  have D1 := Lib.hid (KB.out.trans (hb1.mono (by omega)))
  have L0 := Lib.hid (K0.out.next hb1)
  have L1 := Lib.hid (K1.out.next hb1)
  have hsz1 := hb1.size
  clear hb1 c0 c1 c2 c3 c4 c5 c6 c7 c8 c9
  obtain ⟨c0, c1, c2, c3, c4, c5, c6, c7, c8, c9⟩ := L1.out.rd
  go_wp2_with fail
  (with_reducible refine (CO.out _).mono ?_)
  rintro e w1 ⟨rfl, rfl⟩
  have z : (q.kind == 1) = false := beq_eq_false_iff_ne.2 (fun h => hd (.inl h))
  have z3 : (roleF q.flags == 3) = false := beq_eq_false_iff_ne.2 (fun h => hd (.inr h))
  obtain ⟨p6, p7, p8, p9, p10, p11, p12, p13⟩ := L0.out.rd
  by_cases hr : roleF q.flags = 0
  · have z0 : (roleF q.flags != 0) = false := by simp [hr]
    have e : R = 0 := by rw [← hR.out, if_neg (fun c => c.1 hr)]
    subst e
    clear hd hr hR hrange
    go_wp2
    all_goals go_ret
    all_goals exact ⟨rfl, HN.out ▸ D1.out⟩
  · have z0 : (roleF q.flags != 0) = true := bne_iff_ne.2 hr
    by_cases hc : C = -1
    · have e : R = 0 := by rw [← hR.out, if_neg (fun c => c.2 hc)]
      subst e hc
      clear hd hr hR hrange
      go_wp2_with fail
      (with_reducible refine (CC.out _).mono ?_)
      rintro e w2 ⟨rfl, hb2⟩
      have D2 := Lib.hid (D1.out.trans (hb2.mono (by omega)))
      clear hb2
      go_wp2
      all_goals go_ret
      all_goals exact ⟨rfl, HN.out ▸ D2.out⟩
    · have e : R = 4 := by rw [← hR.out, if_pos ⟨hr, hc⟩]
      have zc : decide (C ≥ 0) = true := decide_eq_true (by omega)
      have zd : 0 ≤ C := by omega
      subst e
      clear hd hr hR hrange hc
      go_wp2_with fail
      (with_reducible refine (CC.out _).mono ?_)
      rintro e w2 ⟨rfl, hb2⟩
      have D2 := Lib.hid (D1.out.trans (hb2.mono (by omega)))
      clear hb2
      go_wp2
      all_goals go_ret
      all_goals exact ⟨rfl, HN.out ▸ D2.out⟩

theorem heard_w (p : Pt) (q : Bp) (R : Int) (w : World) (hR : Hid (heardP p q = R)) (hb : heardB q = true) (ho : p.vec.ok) (hq : BpOk q) (h0 : 0 ≤ q.hello) :
    Calls Tryz.prog 83 #[.agg (cellsT p), bv q.kind q.flags q.root q.cost q.bridge q.port q.age q.max q.hello q.delay] w fun e w' => e = .returned (.int .i64 R) ∧ Below w.heap.size w w' := by
  have hr : rightB q = true := by unfold heardB at hb; simp only [Bool.and_eq_true] at hb; exact hb.1
  have e : heardP p q = if q.kind = 1 ∨ roleF q.flags = 3 then desP p q else if ¬ roleF q.flags = 0 ∧ ¬ cmpR (vecOf q) p.vec = -1 then 4 else 0 := by
    unfold heardP desP
    rw [if_neg (by rw [hb]; simp)]
  rw [e] at hR
  by_cases hd : q.kind = 1 ∨ roleF q.flags = 3
  · rw [if_pos hd] at hR
    exact heard_des_w p q R w hR hd hr ho hq h0
  · rw [if_neg hd] at hR
    exact heard_not_w p q R w hR hd hr ho hq h0
end Go.Proofs.YtldobcfejldbiaaGreatDoor

namespace Go.Proofs.YtldobcfejldbiaaGreatDoor
set_option linter.unusedVariables false
set_option linter.unusedSimpArgs false
open Go.RowKit Vm Rm Bm Im

/-- A BPDU that is heard: its numbers are within their bounds. -/
structure BpHd (q : Bp) : Prop where
  kind : q.kind = 1 ∨ q.kind = 3
  age : 0 ≤ q.age ∧ q.age ≤ 65535
  max : 0 ≤ q.max ∧ q.max ≤ 65535
  hello : 0 ≤ q.hello ∧ q.hello ≤ 65535
  delay : 0 ≤ q.delay ∧ q.delay ≤ 65535
  flags : 0 ≤ q.flags ∧ q.flags ≤ 255
theorem heard_hd {q : Bp} (h : heardB q = true) : BpHd q := by
  unfold heardB at h
  simp only [Bool.and_eq_true, Bool.not_eq_true', decide_eq_false_iff_not] at h
  obtain ⟨h, h2⟩ := h
  unfold rightB at h
  rw [if_neg h2] at h
  by_cases hk : q.kind = 1 ∨ q.kind = 3
  · rw [if_pos hk] at h
    unfold numsB withinB at h
    simp only [Bool.and_eq_true, decide_eq_true_eq] at h
    exact ⟨hk, h.2.2.2.1, h.2.2.2.2.1, h.2.2.2.2.2.1, h.2.2.2.2.2.2, h.1⟩
  · rw [if_neg hk] at h
    cases h
theorem BBlk.same {T : TypeId} {w w1 : World} {b : Nat} {q : Bp} (h : BBlk T w b q) (hb : w1.heap[b]? = w.heap[b]?) : BBlk T w1 b q := hb.trans h
abbrev bq (q : Bp) : Value := bv q.kind q.flags q.root q.cost q.bridge q.port q.age q.max q.hello q.delay
theorem bqblk_new (T : TypeId) (w : World) (q : Bp) : BBlk T (w.alloc (.cells #[.int .i64 q.kind, .int .i64 q.flags, .int .u64 q.root, .int .u64 q.cost, .int .u64 q.bridge, .int .u64 q.port, .int .i64 q.age, .int .i64 q.max, .int .i64 q.hello, .int .i64 q.delay] T)) w.heap.size q := heap_alloc_new w _
def heedP (p : Pt) (q : Bp) : Pt := { p with heardTc := p.heardTc || bitB q.flags 0 }
def rec1P (p : Pt) (q : Bp) : Pt := { p with proposed := p.proposed || (decide (q.kind = 3) && bitB q.flags 1), heardAck := p.heardAck || (!decide (q.kind = 3) && bitB q.flags 7) }
def infoN (q : Bp) : Int := if (timesOf q).age + 1 > (timesOf q).max then 0 else 3 * (timesOf q).hello
theorem record_is (p : Pt) (q : Bp) : recordP p q = { heedP (rec1P p q) q with info := infoN q } := rfl
def giveP (p : Pt) (q : Bp) : Pt := { p with agreed := false, proposing := false, agree := p.agree && decide (vecOf q = p.vec), synced := p.synced && decide (vecOf q = p.vec), vec := vecOf q, times := timesOf q, source := 3, reselect := true, ready := false }
theorem super_is (p : Pt) (q : Bp) : superP p q = recordP (giveP p q) q := rfl


set_option maxRecDepth 20000 in
set_option maxHeartbeats 1000000 in
theorem heed_w (b : Nat) (p : Pt) (q : Bp) (w : World) (h : PtBlk 78 w b p) :
    Calls Tryz.prog 171 #[.pointer (some ⟨b, 0, none⟩), bq q] w fun e w' => e = .returned (.tuple #[]) ∧ Tn 78 b (heedP p q) w w' := by
  have hlt := h.lt
  have K := Lib.hid (bqblk_new 49 w q)
  have T0 := Lib.hid ((Tn.refl h).grow (below_box w (.cells #[.int .i64 q.kind, .int .i64 q.flags, .int .u64 q.root, .int .u64 q.cost, .int .u64 q.bridge, .int .u64 q.port, .int .i64 q.age, .int .i64 q.max, .int .i64 q.hello, .int .i64 q.delay] 49)))
  obtain ⟨B, hB⟩ : ∃ B, bitB q.flags 0 = B := ⟨_, rfl⟩
  have CB0 := Lib.hid (fun w' => has_w q.kind q.flags q.root q.cost q.bridge q.port q.age q.max q.hello q.delay 0 0 B w' rfl (by omega) (Lib.hid hB))
  unfold bv at CB0
  clear h
  unfold bq bv
  go_enter Tryz.func171, Tryz.ntmps171
  go_wp2_with fail
  (with_reducible refine (CB0.out _).mono ?_)
  rintro e w1 ⟨rfl, hb1⟩
  have T1 := Lib.hid (T0.out.grow hb1)
  have K1 := Lib.hid (K.out.next hb1)
  clear hb1
  have f := T1.out.blk.free
  have c_heardTc := T1.out.blk.c_heardTc
  cases B
  · go_wp2
    go_end0
    exact ⟨rfl, T1.out.as (by unfold heedP; rw [hB]; cases p; simp)⟩
  · go_wp2
    go_end0
    exact ⟨rfl, (T1.out.set 40 (.bool true) (T1.out.blk.s_heardTc true)).as (by unfold heedP; rw [hB]; simp)⟩

set_option maxRecDepth 20000 in
set_option maxHeartbeats 1000000 in
theorem dispute_w (b : Nat) (p : Pt) (q : Bp) (w : World) (h : PtBlk 78 w b p) :
    Calls Tryz.prog 134 #[.pointer (some ⟨b, 0, none⟩), bq q] w fun e w' => e = .returned (.tuple #[]) ∧ Tn 78 b (inferiorP p q) w w' := by
  have hlt := h.lt
  have K := Lib.hid (bqblk_new 49 w q)
  have T0 := Lib.hid ((Tn.refl h).grow (below_box w (.cells #[.int .i64 q.kind, .int .i64 q.flags, .int .u64 q.root, .int .u64 q.cost, .int .u64 q.bridge, .int .u64 q.port, .int .i64 q.age, .int .i64 q.max, .int .i64 q.hello, .int .i64 q.delay] 49)))
  obtain ⟨B, hB⟩ : ∃ B, bitB q.flags 4 = B := ⟨_, rfl⟩
  have CB4 := Lib.hid (fun w' => has_w q.kind q.flags q.root q.cost q.bridge q.port q.age q.max q.hello q.delay 4 4 B w' rfl (by omega) (Lib.hid hB))
  unfold bv at CB4
  clear h
  unfold bq bv
  go_enter Tryz.func134, Tryz.ntmps134
  by_cases hk : q.kind = 3
  · have z : (q.kind == 3) = true := beq_iff_eq.2 hk
    have HK := Lib.hid hk
    clear hk
    go_wp2_with fail
    (with_reducible refine (CB4.out _).mono ?_)
    rintro e w1 ⟨rfl, hb1⟩
    have T1 := Lib.hid (T0.out.grow hb1)
    have K1 := Lib.hid (K.out.next hb1)
    clear hb1
    have f := T1.out.blk.free
    have c_disputed := T1.out.blk.c_disputed
    have c_agreed := T1.out.blk.c_agreed
    cases B
    · go_wp2
      go_end0
      exact ⟨rfl, T1.out.as (by unfold inferiorP; rw [if_neg (fun c => by rw [hB] at c; cases c.2)])⟩
    · go_wp2
      go_end0
      exact ⟨rfl, ((T1.out.set 38 (.bool true) (T1.out.blk.s_disputed true)).set 32 (.bool false) ((T1.out.blk.s_disputed true).s_agreed false)).as (by unfold inferiorP; rw [if_pos ⟨HK.out, hB⟩])⟩
  · have z : (q.kind == 3) = false := beq_eq_false_iff_ne.2 hk
    go_wp2
    go_end0
    exact ⟨rfl, T0.out.as (by unfold inferiorP; rw [if_neg (fun c => hk c.1)])⟩

set_option maxRecDepth 20000 in
set_option maxHeartbeats 1000000 in
theorem agree_w (b : Nat) (p : Pt) (q : Bp) (w : World) (h : PtBlk 78 w b p) (hk : q.kind = 3) :
    Calls Tryz.prog 135 #[.pointer (some ⟨b, 0, none⟩), bq q] w fun e w' => e = .returned (.tuple #[]) ∧ Tn 78 b (otherP p q) w w' := by
  have hlt := h.lt
  have K := Lib.hid (bqblk_new 49 w q)
  have T0 := Lib.hid ((Tn.refl h).grow (below_box w (.cells #[.int .i64 q.kind, .int .i64 q.flags, .int .u64 q.root, .int .u64 q.cost, .int .u64 q.bridge, .int .u64 q.port, .int .i64 q.age, .int .i64 q.max, .int .i64 q.hello, .int .i64 q.delay] 49)))
  obtain ⟨B, hB⟩ : ∃ B, bitB q.flags 6 = B := ⟨_, rfl⟩
  have CH := Lib.hid (fun (X : Pt) w' (h : PtBlk 78 w' b X) => heed_w b X q w' h)
  unfold bq bv at CH
  have HK := Lib.hid hk
  clear hk
  have CB6 := Lib.hid (fun w' => has_w q.kind q.flags q.root q.cost q.bridge q.port q.age q.max q.hello q.delay 6 6 B w' rfl (by omega) (Lib.hid hB))
  unfold bv at CB6
  clear h
  unfold bq bv
  go_enter Tryz.func135, Tryz.ntmps135
  go_wp2_with fail
  (with_reducible refine (CB6.out _).mono ?_)
  rintro e w1 ⟨rfl, hb1⟩
  have T1 := Lib.hid (T0.out.grow hb1)
  have K1 := Lib.hid (K.out.next hb1)
  clear hb1
  have f := T1.out.blk.free
  have c_agreed := T1.out.blk.c_agreed
  have c_proposing := T1.out.blk.c_proposing
  have c_sendRstp := T1.out.blk.c_sendRstp
  obtain ⟨d0, d1, d2, d3, d4, d5, d6, d7, d8, d9⟩ := K1.out.rd
  cases B
  · go_wp2_with fail
    refine (CH.out _ _ T1.out.blk).mono ?_
    rintro e w2 ⟨rfl, t⟩
    have T2 := Lib.hid (T1.out.trans t)
    clear t
    go_wp2
    go_end0
    exact ⟨rfl, T2.out.as (by unfold otherP heedP; rw [hB]; cases p; simp)⟩
  · cases hs : p.sendRstp
    · rw [hs] at c_sendRstp
      go_wp2_with fail
      refine (CH.out _ _ T1.out.blk).mono ?_
      rintro e w2 ⟨rfl, t⟩
      have T2 := Lib.hid (T1.out.trans t)
      clear t
      go_wp2
      go_end0
      exact ⟨rfl, T2.out.as (by unfold otherP heedP; rw [hs]; cases p; simp)⟩
    · rw [hs] at c_sendRstp
      have TS := Lib.hid ((T1.out.set 32 (.bool true) (T1.out.blk.s_agreed true)).set 34 (.bool false) ((T1.out.blk.s_agreed true).s_proposing false))
      have K2 := Lib.hid (((K1.out.other 32 (.bool true) (show w.heap.size ≠ b by omega))).other 34 (.bool false) (show w.heap.size ≠ b by omega))
      obtain ⟨e0, e1, e2, e3, e4, e5, e6, e7, e8, e9⟩ := K2.out.rd
      go_wp2_with fail
      refine (CH.out _ _ TS.out.blk).mono ?_
      rintro e w2 ⟨rfl, t⟩
      have T2 := Lib.hid (TS.out.trans t)
      clear t
      go_wp2
      go_end0
      exact ⟨rfl, T2.out.as (by unfold otherP heedP; rw [hs, HK.out, hB]; simp)⟩

set_option maxRecDepth 20000 in
set_option maxHeartbeats 1000000 in
theorem record_w (b : Nat) (p : Pt) (q : Bp) (w : World) (h : PtBlk 78 w b p) (hd : BpHd q) :
    Calls Tryz.prog 133 #[.pointer (some ⟨b, 0, none⟩), bq q] w fun e w' => e = .returned (.tuple #[]) ∧ Tn 78 b (recordP p q) w w' := by
  have hlt := h.lt
  have K := Lib.hid (bqblk_new 49 w q)
  have T0 := Lib.hid ((Tn.refl h).grow (below_box w (.cells #[.int .i64 q.kind, .int .i64 q.flags, .int .u64 q.root, .int .u64 q.cost, .int .u64 q.bridge, .int .u64 q.port, .int .i64 q.age, .int .i64 q.max, .int .i64 q.hello, .int .i64 q.delay] 49)))
  obtain ⟨B1, hB1⟩ : ∃ B, bitB q.flags 1 = B := ⟨_, rfl⟩
  obtain ⟨B7, hB7⟩ : ∃ B, bitB q.flags 7 = B := ⟨_, rfl⟩
  obtain ⟨H, hH⟩ : ∃ H, (if q.hello / 256 < 1 then 1 else q.hello / 256) = H := ⟨_, rfl⟩
  obtain ⟨N, hN⟩ : ∃ N, infoN q = N := ⟨_, rfl⟩
  have hHr : 0 ≤ H ∧ H < 1000 := by rw [← hH]; have := hd.hello; split <;> omega
  have CB1 := Lib.hid (fun w' => has_w q.kind q.flags q.root q.cost q.bridge q.port q.age q.max q.hello q.delay 1 1 B1 w' rfl (by omega) (Lib.hid hB1))
  have CB7 := Lib.hid (fun w' => has_w q.kind q.flags q.root q.cost q.bridge q.port q.age q.max q.hello q.delay 7 7 B7 w' rfl (by omega) (Lib.hid hB7))
  have CH := Lib.hid (fun (X : Pt) w' (h : PtBlk 78 w' b X) => heed_w b X q w' h)
  have CT := Lib.hid (fun w' => times_w q.kind q.flags q.root q.cost q.bridge q.port q.age q.max q.hello q.delay H w' hd.hello.1 (Lib.hid hH))
  have CN := Lib.hid (fun w' => holds_w (q.age / 256) (q.max / 256) H (q.delay / 256) N w' (by have := hd.age; omega) (by have := hd.max; omega) hHr (Lib.hid (by rw [← hN, ← hH]; rfl)))
  unfold bq bv at CH
  unfold bv at CB1 CB7 CT
  unfold tv at CN CT
  have HKD := Lib.hid hd.kind
  clear hd hHr hH
  clear h
  unfold bq bv
  go_enter Tryz.func133, Tryz.ntmps133
  by_cases hk : q.kind = 3
  · have z : (q.kind == 3) = true := beq_iff_eq.2 hk
    have zn : (q.kind != 3) = false := by simp [hk]
    have HK := Lib.hid hk
    clear hk
    go_wp2_with fail
    (with_reducible refine (CB1.out _).mono ?_)
    rintro e w1 ⟨rfl, hb1⟩
    have T1 := Lib.hid (T0.out.grow hb1)
    have K1 := Lib.hid (K.out.next hb1)
    clear hb1
    obtain ⟨d0, d1, d2, d3, d4, d5, d6, d7, d8, d9⟩ := K1.out.rd
    have f := T1.out.blk.free
    have c_p := T1.out.blk.c_proposed
    cases B1
    · go_wp2_with fail
      refine (CH.out _ _ T1.out.blk).mono ?_
      rintro e w2 ⟨rfl, t⟩
      have T2 := Lib.hid (T1.out.trans t)
      have L2 := Lib.hid (K1.out.same (t.at K1.out.lt (by omega)))
      have hs2 := t.size
      have hk2 := K1.out.lt
      clear t
      obtain ⟨g0, g1, g2, g3, g4, g5, g6, g7, g8, g9⟩ := L2.out.rd
      go_wp2_with fail
      (with_reducible refine (CT.out _).mono ?_)
      rintro e w3 ⟨rfl, hb3⟩
      have T3 := Lib.hid (T2.out.grow hb3)
      clear hb3
      go_wp2_with fail
      (with_reducible refine (CN.out _).mono ?_)
      rintro e w4 ⟨rfl, hb4⟩
      have T4 := Lib.hid (T3.out.grow hb4)
      clear hb4
      have f := T4.out.blk.free
      have c_info := T4.out.blk.c_info
      go_wp2
      go_end0
      exact ⟨rfl, (T4.out.set 56 (.int .i64 N) (T4.out.blk.s_info N)).as (by rw [record_is, hN]; unfold rec1P; rw [HK.out, hB1]; cases p; simp)⟩
    · have TS := Lib.hid (T1.out.set 33 (.bool true) (T1.out.blk.s_proposed true))
      have KS := Lib.hid (K1.out.other 33 (.bool true) (show w.heap.size ≠ b by omega))
      obtain ⟨e0, e1, e2, e3, e4, e5, e6, e7, e8, e9⟩ := KS.out.rd
      go_wp2_with fail
      refine (CH.out _ _ TS.out.blk).mono ?_
      rintro e w2 ⟨rfl, t⟩
      have T2 := Lib.hid (TS.out.trans t)
      have L2 := Lib.hid (KS.out.same (t.at KS.out.lt (by omega)))
      have hs2 := t.size
      have hk2 := KS.out.lt
      clear t
      obtain ⟨g0, g1, g2, g3, g4, g5, g6, g7, g8, g9⟩ := L2.out.rd
      go_wp2_with fail
      (with_reducible refine (CT.out _).mono ?_)
      rintro e w3 ⟨rfl, hb3⟩
      have T3 := Lib.hid (T2.out.grow hb3)
      clear hb3
      go_wp2_with fail
      (with_reducible refine (CN.out _).mono ?_)
      rintro e w4 ⟨rfl, hb4⟩
      have T4 := Lib.hid (T3.out.grow hb4)
      clear hb4
      have f := T4.out.blk.free
      have c_info := T4.out.blk.c_info
      go_wp2
      go_end0
      exact ⟨rfl, (T4.out.set 56 (.int .i64 N) (T4.out.blk.s_info N)).as (by rw [record_is, hN]; unfold rec1P; rw [HK.out, hB1]; cases p; simp)⟩
  · have z : (q.kind == 3) = false := beq_eq_false_iff_ne.2 hk
    have zn : (q.kind != 3) = true := bne_iff_ne.2 hk
    have HK := Lib.hid hk
    clear hk
    go_wp2_with fail
    (with_reducible refine (CB7.out _).mono ?_)
    rintro e w1 ⟨rfl, hb1⟩
    have T1 := Lib.hid (T0.out.grow hb1)
    have K1 := Lib.hid (K.out.next hb1)
    clear hb1
    obtain ⟨d0, d1, d2, d3, d4, d5, d6, d7, d8, d9⟩ := K1.out.rd
    have f := T1.out.blk.free
    have c_p := T1.out.blk.c_heardAck
    cases B7
    · go_wp2_with fail
      refine (CH.out _ _ T1.out.blk).mono ?_
      rintro e w2 ⟨rfl, t⟩
      have T2 := Lib.hid (T1.out.trans t)
      have L2 := Lib.hid (K1.out.same (t.at K1.out.lt (by omega)))
      have hs2 := t.size
      have hk2 := K1.out.lt
      clear t
      obtain ⟨g0, g1, g2, g3, g4, g5, g6, g7, g8, g9⟩ := L2.out.rd
      go_wp2_with fail
      (with_reducible refine (CT.out _).mono ?_)
      rintro e w3 ⟨rfl, hb3⟩
      have T3 := Lib.hid (T2.out.grow hb3)
      clear hb3
      go_wp2_with fail
      (with_reducible refine (CN.out _).mono ?_)
      rintro e w4 ⟨rfl, hb4⟩
      have T4 := Lib.hid (T3.out.grow hb4)
      clear hb4
      have f := T4.out.blk.free
      have c_info := T4.out.blk.c_info
      go_wp2
      go_end0
      exact ⟨rfl, (T4.out.set 56 (.int .i64 N) (T4.out.blk.s_info N)).as (by rw [record_is, hN]; unfold rec1P; rw [decide_eq_false HK.out, hB7]; cases p; simp)⟩
    · have TS := Lib.hid (T1.out.set 42 (.bool true) (T1.out.blk.s_heardAck true))
      have KS := Lib.hid (K1.out.other 42 (.bool true) (show w.heap.size ≠ b by omega))
      obtain ⟨e0, e1, e2, e3, e4, e5, e6, e7, e8, e9⟩ := KS.out.rd
      go_wp2_with fail
      refine (CH.out _ _ TS.out.blk).mono ?_
      rintro e w2 ⟨rfl, t⟩
      have T2 := Lib.hid (TS.out.trans t)
      have L2 := Lib.hid (KS.out.same (t.at KS.out.lt (by omega)))
      have hs2 := t.size
      have hk2 := KS.out.lt
      clear t
      obtain ⟨g0, g1, g2, g3, g4, g5, g6, g7, g8, g9⟩ := L2.out.rd
      go_wp2_with fail
      (with_reducible refine (CT.out _).mono ?_)
      rintro e w3 ⟨rfl, hb3⟩
      have T3 := Lib.hid (T2.out.grow hb3)
      clear hb3
      go_wp2_with fail
      (with_reducible refine (CN.out _).mono ?_)
      rintro e w4 ⟨rfl, hb4⟩
      have T4 := Lib.hid (T3.out.grow hb4)
      clear hb4
      have f := T4.out.blk.free
      have c_info := T4.out.blk.c_info
      go_wp2
      go_end0
      exact ⟨rfl, (T4.out.set 56 (.int .i64 N) (T4.out.blk.s_info N)).as (by rw [record_is, hN]; unfold rec1P; rw [decide_eq_false HK.out, hB7]; cases p; simp)⟩


end Go.Proofs.YtldobcfejldbiaaGreatDoor
