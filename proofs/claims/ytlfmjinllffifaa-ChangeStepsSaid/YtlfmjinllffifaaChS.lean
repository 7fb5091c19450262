/-
  Layer 13: ChangeSteps.
-/
import Derived.Test.YtlfmjinllffifaaChK
import Derived.Test.YtlfmjinllffifaaInAf
namespace Go.Proofs.Ytlfmjinllffifaa
set_option linter.unusedVariables false
set_option linter.unusedSimpArgs false
open Go.RowKit Vm Rm Bm Im

/-- How many of the first i are to forget. -/
def cntF (l : List Pt) (i : Nat) : Nat := ((l.take i).filter Pt.flush).length
theorem cnt_zero (l : List Pt) : cntF l 0 = 0 := rfl
theorem cnt_yes {l : List Pt} {i : Nat} {p : Pt} (h : l[i]? = some p) (hf : p.flush = true) : cntF l (i + 1) = cntF l i + 1 := by
  unfold cntF
  rw [take_nextP h, List.filter_append, List.length_append]
  simp [hf]
theorem cnt_no {l : List Pt} {i : Nat} {p : Pt} (h : l[i]? = some p) (hf : p.flush = false) : cntF l (i + 1) = cntF l i := by
  unfold cntF
  rw [take_nextP h, List.filter_append, List.length_append]
  simp [hf]
theorem cnt_all (l : List Pt) : cntF l l.length = (flushedP l).2.length := by
  unfold cntF flushedP
  rw [List.take_length, List.length_map]
theorem cnt_at {l : List Pt} {i : Nat} {p : Pt} (h : l[i]? = some p) (hf : p.flush = true) : (flushedP l).2[cntF l i]? = some p.id := by
  have hi : i < l.length := (List.getElem?_eq_some_iff.1 h).1
  have e : l = l.take i ++ p :: l.drop (i + 1) := by
    have h1 := List.take_append_drop i l
    have h2 : l.drop i = p :: l.drop (i + 1) := by
      rw [List.drop_eq_getElem_cons hi, (List.getElem?_eq_some_iff.1 h).2]
    rw [h2] at h1
    exact h1.symm
  unfold flushedP cntF
  show ((l.filter Pt.flush).map Pt.id)[_]? = _
  rw [List.getElem?_map]
  have e2 : l.filter Pt.flush = (l.take i).filter Pt.flush ++ p :: (l.drop (i + 1)).filter Pt.flush := by
    conv => lhs; rw [e, List.filter_append, List.filter_cons_of_pos hf]
  rw [e2, List.getElem?_append_right (Nat.le_refl _), Nat.sub_self]
  rfl
theorem cnt_le (l : List Pt) (i : Nat) : cntF l i ≤ i := by
  unfold cntF
  exact Nat.le_trans (List.length_filter_le _ _) (by rw [List.length_take]; exact Nat.min_le_left _ _)
theorem flushed_at {l : List Pt} {i : Nat} {p : Pt} (h : l[i]? = some p) : (flushedP l).1[i]? = some (offP p) := by
  unfold flushedP
  simp [h]
theorem rbv_loadAt {w : World} {b : Nat} {i a m h d : Int} (H : RbBlk w b i a m h d) : (Instr.loadAt 31 (.pointer (some ⟨b, 0, none⟩))).run Try.prog w = .ok (brv i a m h d) w := loadAt_row H rfl rfl (by kernel_rfl)
def CsInv (l : List Pt) (n : Nat) (W : World) (u18 u19 : Value) (wr : World) : Prop := ∃ k : Nat, k ≤ n ∧ u18 = .int .i64 ((cntF l k : Nat) : Int) ∧ u19 = .int .i64 ((k : Nat) : Int) ∧ Below W.heap.size W wr

set_option maxRecDepth 20000 in
set_option maxHeartbeats 8000000 in
theorem steps_any (i : Int) (t : Tm) (ad : Option Addr) (cap : Nat) (l : List Pt) (at' : Int) (w : World) (hr : PRow w ad l) :
    Calls Try.prog 3 #[brv i t.age t.max t.hello t.delay, .slice ad l.length cap, .int .i64 at'] w fun e w' => e = .returned (.bool true) ∧ Below w.heap.size w w' := by
  have HK := Lib.hid (show BrBlk (w.alloc (.cells (bcl i t.age t.max t.hello t.delay) 26)) w.heap.size i t.age t.max t.hello t.delay from heap_alloc_new w _)
  have B0 := Lib.hid (below_box w (.cells (bcl i t.age t.max t.hello t.delay) 26))
  have CW := Lib.hid (fun w' => awake13_any w')
  obtain ⟨n, hn⟩ : ∃ n, l.length = n := ⟨_, rfl⟩
  have HN := Lib.hid hn
  have HR := Lib.hid hr
  by_cases h20 : n > 20
  · rw [hn]
    clear hr hn
    unfold brv
    unfold bcl at *
    have hi20 : (n : Int) > 20 := by omega
    go_enter Try.func3, Try.ntmps3
    go_wp2_with (go_at_call 5; (with_reducible refine (CW.out _).mono ?_); rintro e w1 ⟨rfl, hb1⟩)
    go_ret
    exact ⟨rfl, bw_trans B0.out hb1⟩
  have hi20 : ¬ (n : Int) > 20 := by omega
  obtain ⟨L1, hL1⟩ : ∃ L, (stepI t l at').1 = L := ⟨_, rfl⟩
  obtain ⟨B1, hB1⟩ : ∃ B, (stepI t l at').2 = B := ⟨_, rfl⟩
  obtain ⟨L2, hL2⟩ : ∃ L, (cpassP t l).1 = L := ⟨_, rfl⟩
  obtain ⟨B2, hB2⟩ : ∃ B, (cpassP t l).2 = B := ⟨_, rfl⟩
  have e1 : stepI t l at' = (L1, B1) := Prod.ext hL1 hB1
  have e2 : cpassP t l = (L2, B2) := Prod.ext hL2 hB2
  have hn1 : L1.length = n := by
    rw [← hL1]
    unfold stepI
    split
    · rw [stepP_len]; exact hn
    · exact hn
  have hn2 : L2.length = n := by rw [← hL2]; exact (cpassN_len t l l.length).trans hn
  have CS := Lib.hid (fun (w' : World) (h : PRow w' ad l) => show Calls Try.prog 6 #[brv i t.age t.max t.hello t.delay, .slice ad n cap, .int .i64 at'] w' (fun e w'' => Out w' w'' n L1 B1 e) from by
    have := step13_w i t ad cap at' l L1 B1 w' h (by omega) e1
    rwa [hn] at this)
  have CP := Lib.hid (fun (w' : World) (h : PRow w' ad l) => show Calls Try.prog 9 #[brv i t.age t.max t.hello t.delay, .slice ad n cap] w' (fun e w'' => Out w' w'' n L2 B2 e) from by
    have := pass13_w i t ad cap l L2 B2 w' h (by omega) e2
    rwa [hn] at this)
  have CR := Lib.hid (fun (w' : World) (a' : Option Addr) (cap' : Nat) (h : PRow w' a' l) => show Calls Try.prog 7 #[brv i t.age t.max t.hello t.delay, .slice a' n cap', .int .i64 at'] w' (fun e w'' => Out w' w'' n L1 B1 e) from by
    have := rstep_w i t a' cap' at' l L1 B1 w' h (by omega) e1
    rwa [hn] at this)
  have CQ := Lib.hid (fun (w' : World) (a' : Option Addr) (cap' : Nat) (h : PRow w' a' l) => show Calls Try.prog 10 #[brv i t.age t.max t.hello t.delay, .slice a' n cap'] w' (fun e w'' => Out w' w'' n L2 B2 e) from by
    have := rcpass_w i t a' cap' l L2 B2 w' h (by omega) e2
    rwa [hn] at this)
  have CO := Lib.hid (fun (w' : World) (h : PRow w' ad l) => show Calls Try.prog 8 #[.slice ad n cap] w' (fun e w'' => ∃ (a' : Option Addr) (cap' : Nat), e = .returned (.slice a' n cap') ∧ PRow w'' a' l ∧ Below w'.heap.size w' w'') from by
    have := ofs_w ad cap l w' h (by omega)
    rwa [hn] at this)
  have CL1 := Lib.hid (fun (w' : World) (a a' : Option Addr) (c c' : Nat) (h : PRow w' a L1) (h' : PRow w' a' L1) => lsame_w a a' c c' L1 L1 n true w' h h' hn1 hn1 (by omega) (Lib.hid (decide_eq_true rfl)))
  have CL2 := Lib.hid (fun (w' : World) (a a' : Option Addr) (c c' : Nat) (h : PRow w' a L2) (h' : PRow w' a' L2) => lsame_w a a' c c' L2 L2 n true w' h h' hn2 hn2 (by omega) (Lib.hid (decide_eq_true rfl)))
  obtain ⟨F, hF⟩ : ∃ f, (flushedP l).2.length = f := ⟨_, rfl⟩
  have CF := Lib.hid (fun (w' : World) (h : PRow w' ad l) => show Calls Try.prog 12 #[.slice ad n cap] w' (fun e w'' => ∃ (a' d : Option Addr) (cap' dcap : Nat), e = .returned (.tuple #[.slice a' n cap', .slice d F dcap]) ∧ F ≤ dcap ∧ PRow w'' a' (flushedP l).1 ∧ URow w'' d (flushedP l).2 ∧ Below w'.heap.size w' w'') from by
    have h := flushed13_w ad cap l w' h (by omega)
    unfold OutF at h
    rw [hn, hF] at h
    exact h.mono fun e w'' ⟨a', d, c', dc, h1, h2, h3, h4, h5, h6⟩ => ⟨a', d, c', dc, h1, h2, h4, h5, h6⟩)
  have HF := Lib.hid hF
  rw [hn]
  unfold brv at *
  unfold bcl at *
  clear hr hn hL1 hB1 hL2 hB2 e1 e2 hn1 hn2 hF
  go_enter Try.func3, Try.ntmps3
  go_upto_region 5 with (go_at_call 5; (with_reducible refine (CW.out _).mono ?_); rintro e w1 ⟨rfl, hb1⟩)
  have KB1 := Lib.hid (HK.out.next hb1)
  have BA := Lib.hid (bw_trans B0.out hb1)
  obtain ⟨k0, k1, k2, k3, k4⟩ := KB1.out.cells
  clear hb1 HK B0 CW
  go_upto_region 6 with (fail)
  obtain ⟨V1, hV1⟩ : ∃ V, w1.alloc (.cells #[.int .u64 i, .int .i64 t.age, .int .i64 t.max, .int .i64 t.hello, .int .i64 t.delay] 31) = V := ⟨_, rfl⟩
  obtain ⟨cb, hcb⟩ : ∃ b, w1.heap.size = b := ⟨_, rfl⟩
  refine wp_to (W := V1) (by exact hV1.symm) ?_
  have RB1 := Lib.hid (show RbBlk V1 cb i t.age t.max t.hello t.delay by rw [← hV1, ← hcb]; exact heap_alloc_new w1 _)
  have BV : Below w1.heap.size w1 V1 := by rw [← hV1]; exact below_box w1 _
  have KB2 := Lib.hid (KB1.out.next BV)
  have BB1 := Lib.hid (bw_trans BA.out BV)
  rw [hcb]
  clear hV1 hcb BV k0 k1 k2 k3 k4 KB1 BA
  obtain ⟨k0, k1, k2, k3, k4⟩ := KB2.out.cells
  go_upto_region 7 with (go_at_call 6; (with_reducible refine (CS.out _ (HR.out.next BB1.out)).mono ?_); rintro e x1 ⟨a1, c1, rfl, hc1, hr1, hb1⟩)
  have O1 := Lib.hid hr1
  have RB7 := Lib.hid (RB1.out.next hb1)
  have KB3 := Lib.hid (KB2.out.next hb1)
  have B7 := Lib.hid (bw_trans BB1.out hb1)
  clear hr1 hb1 k0 k1 k2 k3 k4 RB1 KB2 BB1 CS
  go_cut [10, 11] (fun u v wx => ∃ (a : Option Addr) (c : Nat), u = .slice a n c ∧ v = .bool B1 ∧ PRow wx a L1 ∧ Below x1.heap.size x1 wx)
  case first =>
    refine wp_region_held_drew (S := fun V => RbBlk V cb i t.age t.max t.hello t.delay) (by kernel_rfl) (show RbBlk x1.drew cb i t.age t.max t.hello t.delay from RB7.out) (fun hHeld => ?_)
    try simp only [Act.put]
    refine wpAnyH_take (i := 0) (v := (.agg #[.int .u64 i, .int .i64 t.age, .int .i64 t.max, .int .i64 t.hello, .int .i64 t.delay])) rfl (by kernel_rfl) (by kernel_rfl) (by kernel_rfl) (fun _ _ _ h => h) (yieldsIf_run (by rfl) 31 _ rfl ⟨cb, 0, none⟩ rfl _ (fun V h => rbv_loadAt h)) hHeld ?_
    try simp only [Act.put, List.getElem_toArray, List.getElem_cons_succ, List.getElem_cons_zero, List.setIfInBounds_toArray, List.set_cons_zero, List.set_cons_succ]
    refine wpAnyH_take (i := 1) (v := .slice ad n cap) rfl (by kernel_rfl) (by kernel_rfl) (by kernel_rfl) (fun _ _ _ h => h) (yieldsIf_move (by rfl) _ rfl _ rfl) hHeld ?_
    try simp only [Act.put, List.getElem_toArray, List.getElem_cons_succ, List.getElem_cons_zero, List.setIfInBounds_toArray, List.set_cons_zero, List.set_cons_succ]
    refine wpAnyH_take (i := 3) (v := .int .i64 at') rfl (by kernel_rfl) (by kernel_rfl) (by kernel_rfl) (fun _ _ _ h => h) (yieldsIf_move (by rfl) _ rfl _ rfl) hHeld ?_
    try simp only [Act.put, List.getElem_toArray, List.getElem_cons_succ, List.getElem_cons_zero, List.setIfInBounds_toArray, List.set_cons_zero, List.set_cons_succ]
    refine wpAnyH_ready (rs := [2]) (by kernel_rfl) (by simp) ?_
    refine AllReadyH.cons rfl (fun K hK => ?_) AllReadyH.nil
    go_simp
    (with_reducible refine (CO.out _ (HR.out.next (show Below w.heap.size w x1.drew from B7.out.drew))).mono ?_)
    rintro e y7 ⟨ao7, co7, rfl, ho7, hy7⟩
    have RY7 := Lib.hid (show RbBlk y7 cb i t.age t.max t.hello t.delay from (show RbBlk x1.drew cb i t.age t.max t.hello t.delay from RB7.out).next hy7)
    have OY7 := Lib.hid ho7
    have BY7 := Lib.hid (bw_trans B7.out.drew hy7)
    have DY7 := Lib.hid (show Below x1.heap.size x1 y7 from (Below.refl x1.heap.size x1).drew.trans hy7)
    clear hHeld ho7 hy7
    go_simp
    refine hK.out _ _ RY7.out (fun hHeld => ?_)
    clear hK
    try simp only [Act.put, List.getElem_toArray, List.getElem_cons_succ, List.getElem_cons_zero, List.setIfInBounds_toArray, List.set_cons_zero, List.set_cons_succ]
    refine wpAnyH_ready (rs := [4]) (by kernel_rfl) (by simp) ?_
    refine AllReadyH.cons rfl (fun K hK => ?_) AllReadyH.nil
    go_simp
    (with_reducible refine (CR.out _ _ _ OY7.out).mono ?_)
    rintro e z7 ⟨a7, c7, rfl, hc7, hr7, hz7⟩
    have RZ7 := Lib.hid (RY7.out.next hz7)
    have OZ7 := Lib.hid hr7
    have BZ7 := Lib.hid (bw_trans BY7.out hz7)
    have DZ7 := Lib.hid (bw_trans DY7.out hz7)
    clear hHeld hr7 hz7
    go_simp
    refine hK.out _ _ RZ7.out (fun hHeld => ?_)
    clear hK
    try simp only [Act.put, List.getElem_toArray, List.getElem_cons_succ, List.getElem_cons_zero, List.setIfInBounds_toArray, List.set_cons_zero, List.set_cons_succ]
    refine wpAnyH_take (i := 5) (v := .tuple #[.slice a7 n c7, .bool B1]) rfl (by kernel_rfl) (by kernel_rfl) (by kernel_rfl) (fun _ _ _ h => h) (yieldsIf_move (by rfl) _ rfl _ rfl) hHeld ?_
    try simp only [Act.put, List.getElem_toArray, List.getElem_cons_succ, List.getElem_cons_zero, List.setIfInBounds_toArray, List.set_cons_zero, List.set_cons_succ]
    refine wpAnyH_take (i := 6) (v := .slice a7 n c7) rfl (by kernel_rfl) (by kernel_rfl) (by kernel_rfl) (fun _ _ _ h => h) (Or.inl ⟨by rfl, fun V h => by go_simp⟩) hHeld ?_
    try simp only [Act.put, List.getElem_toArray, List.getElem_cons_succ, List.getElem_cons_zero, List.setIfInBounds_toArray, List.set_cons_zero, List.set_cons_succ]
    refine wpAnyH_take (i := 7) (v := .bool B1) rfl (by kernel_rfl) (by kernel_rfl) (by kernel_rfl) (fun _ _ _ h => h) (Or.inl ⟨by rfl, fun V h => by go_simp⟩) hHeld ?_
    try simp only [Act.put, List.getElem_toArray, List.getElem_cons_succ, List.getElem_cons_zero, List.setIfInBounds_toArray, List.set_cons_zero, List.set_cons_succ]
    refine wpAnyH_take (i := 8) (v := .slice a7 n c7) rfl (by kernel_rfl) (by kernel_rfl) (by kernel_rfl) (fun _ _ _ h => h) (Or.inl ⟨by rfl, fun V h => by go_simp⟩) hHeld ?_
    try simp only [Act.put, List.getElem_toArray, List.getElem_cons_succ, List.getElem_cons_zero, List.setIfInBounds_toArray, List.set_cons_zero, List.set_cons_succ]
    refine wpAnyH_take (i := 9) (v := .bool B1) rfl (by kernel_rfl) (by kernel_rfl) (by kernel_rfl) (fun _ _ _ h => h) (Or.inl ⟨by rfl, fun V h => by go_simp⟩) hHeld ?_
    try simp only [Act.put, List.getElem_toArray, List.getElem_cons_succ, List.getElem_cons_zero, List.setIfInBounds_toArray, List.set_cons_zero, List.set_cons_succ]
    refine wpAnyH_done (by kernel_rfl) ?_ _
    clear hHeld
    go_wp2_with fail
    go_meet
    exact ⟨a7, c7, rfl, rfl, OZ7.out, DZ7.out⟩
  case rest =>
  obtain ⟨a7, c7, rfl, rfl, hr7, hB7⟩ := hcut
  have O2 := Lib.hid hr7
  have O1b := Lib.hid (O1.out.next hB7)
  have RB8 := Lib.hid (RB7.out.next hB7)
  have KB4 := Lib.hid (KB3.out.next hB7)
  have B8 := Lib.hid (bw_trans B7.out hB7)
  clear hr7 hB7 O1 RB7 KB3 B7 CR
  obtain ⟨k0, k1, k2, k3, k4⟩ := KB4.out.cells
  go_upto_region 9 with (go_at_call 9; (with_reducible refine (CP.out _ (HR.out.next B8.out)).mono ?_); rintro e x2 ⟨a8, c8, rfl, hc8, hr8, hb8⟩)
  have O3 := Lib.hid hr8
  have O1c := Lib.hid (O1b.out.next hb8)
  have O2b := Lib.hid (O2.out.next hb8)
  have RB9 := Lib.hid (RB8.out.next hb8)
  have B9 := Lib.hid (bw_trans B8.out hb8)
  clear hr8 hb8 k0 k1 k2 k3 k4 RB8 KB4 B8 O1b O2 CP
  go_cut [14, 15] (fun u v wx => ∃ (a : Option Addr) (c : Nat), u = .slice a n c ∧ v = .bool B2 ∧ PRow wx a L2 ∧ Below x2.heap.size x2 wx)
  case first =>
    refine wp_region_held_drew (S := fun V => RbBlk V cb i t.age t.max t.hello t.delay) (by kernel_rfl) (show RbBlk x2.drew cb i t.age t.max t.hello t.delay from RB9.out) (fun hHeld => ?_)
    try simp only [Act.put]
    refine wpAnyH_take (i := 0) (v := (.agg #[.int .u64 i, .int .i64 t.age, .int .i64 t.max, .int .i64 t.hello, .int .i64 t.delay])) rfl (by kernel_rfl) (by kernel_rfl) (by kernel_rfl) (fun _ _ _ h => h) (yieldsIf_run (by rfl) 31 _ rfl ⟨cb, 0, none⟩ rfl _ (fun V h => rbv_loadAt h)) hHeld ?_
    try simp only [Act.put, List.getElem_toArray, List.getElem_cons_succ, List.getElem_cons_zero, List.setIfInBounds_toArray, List.set_cons_zero, List.set_cons_succ]
    refine wpAnyH_take (i := 1) (v := .slice ad n cap) rfl (by kernel_rfl) (by kernel_rfl) (by kernel_rfl) (fun _ _ _ h => h) (yieldsIf_move (by rfl) _ rfl _ rfl) hHeld ?_
    try simp only [Act.put, List.getElem_toArray, List.getElem_cons_succ, List.getElem_cons_zero, List.setIfInBounds_toArray, List.set_cons_zero, List.set_cons_succ]
    refine wpAnyH_ready (rs := [2]) (by kernel_rfl) (by simp) ?_
    refine AllReadyH.cons rfl (fun K hK => ?_) AllReadyH.nil
    go_simp
    (with_reducible refine (CO.out _ (HR.out.next (show Below w.heap.size w x2.drew from B9.out.drew))).mono ?_)
    rintro e y9 ⟨ao9, co9, rfl, ho9, hy9⟩
    have RY9 := Lib.hid (show RbBlk y9 cb i t.age t.max t.hello t.delay from (show RbBlk x2.drew cb i t.age t.max t.hello t.delay from RB9.out).next hy9)
    have OY9 := Lib.hid ho9
    have BY9 := Lib.hid (bw_trans B9.out.drew hy9)
    have DY9 := Lib.hid (show Below x2.heap.size x2 y9 from (Below.refl x2.heap.size x2).drew.trans hy9)
    clear hHeld ho9 hy9
    go_simp
    refine hK.out _ _ RY9.out (fun hHeld => ?_)
    clear hK
    try simp only [Act.put, List.getElem_toArray, List.getElem_cons_succ, List.getElem_cons_zero, List.setIfInBounds_toArray, List.set_cons_zero, List.set_cons_succ]
    refine wpAnyH_ready (rs := [3]) (by kernel_rfl) (by simp) ?_
    refine AllReadyH.cons rfl (fun K hK => ?_) AllReadyH.nil
    go_simp
    (with_reducible refine (CQ.out _ _ _ OY9.out).mono ?_)
    rintro e z9 ⟨a9, c9, rfl, hc9, hr9, hz9⟩
    have RZ9 := Lib.hid (RY9.out.next hz9)
    have OZ9 := Lib.hid hr9
    have BZ9 := Lib.hid (bw_trans BY9.out hz9)
    have DZ9 := Lib.hid (bw_trans DY9.out hz9)
    clear hHeld hr9 hz9
    go_simp
    refine hK.out _ _ RZ9.out (fun hHeld => ?_)
    clear hK
    try simp only [Act.put, List.getElem_toArray, List.getElem_cons_succ, List.getElem_cons_zero, List.setIfInBounds_toArray, List.set_cons_zero, List.set_cons_succ]
    refine wpAnyH_take (i := 4) (v := .tuple #[.slice a9 n c9, .bool B2]) rfl (by kernel_rfl) (by kernel_rfl) (by kernel_rfl) (fun _ _ _ h => h) (yieldsIf_move (by rfl) _ rfl _ rfl) hHeld ?_
    try simp only [Act.put, List.getElem_toArray, List.getElem_cons_succ, List.getElem_cons_zero, List.setIfInBounds_toArray, List.set_cons_zero, List.set_cons_succ]
    refine wpAnyH_take (i := 5) (v := .slice a9 n c9) rfl (by kernel_rfl) (by kernel_rfl) (by kernel_rfl) (fun _ _ _ h => h) (Or.inl ⟨by rfl, fun V h => by go_simp⟩) hHeld ?_
    try simp only [Act.put, List.getElem_toArray, List.getElem_cons_succ, List.getElem_cons_zero, List.setIfInBounds_toArray, List.set_cons_zero, List.set_cons_succ]
    refine wpAnyH_take (i := 6) (v := .bool B2) rfl (by kernel_rfl) (by kernel_rfl) (by kernel_rfl) (fun _ _ _ h => h) (Or.inl ⟨by rfl, fun V h => by go_simp⟩) hHeld ?_
    try simp only [Act.put, List.getElem_toArray, List.getElem_cons_succ, List.getElem_cons_zero, List.setIfInBounds_toArray, List.set_cons_zero, List.set_cons_succ]
    refine wpAnyH_take (i := 7) (v := .slice a9 n c9) rfl (by kernel_rfl) (by kernel_rfl) (by kernel_rfl) (fun _ _ _ h => h) (Or.inl ⟨by rfl, fun V h => by go_simp⟩) hHeld ?_
    try simp only [Act.put, List.getElem_toArray, List.getElem_cons_succ, List.getElem_cons_zero, List.setIfInBounds_toArray, List.set_cons_zero, List.set_cons_succ]
    refine wpAnyH_take (i := 8) (v := .bool B2) rfl (by kernel_rfl) (by kernel_rfl) (by kernel_rfl) (fun _ _ _ h => h) (Or.inl ⟨by rfl, fun V h => by go_simp⟩) hHeld ?_
    try simp only [Act.put, List.getElem_toArray, List.getElem_cons_succ, List.getElem_cons_zero, List.setIfInBounds_toArray, List.set_cons_zero, List.set_cons_succ]
    refine wpAnyH_done (by kernel_rfl) ?_ _
    clear hHeld
    go_wp2_with fail
    go_meet
    exact ⟨a9, c9, rfl, rfl, OZ9.out, DZ9.out⟩
  case rest =>
  obtain ⟨a9, c9, rfl, rfl, hr9, hB9⟩ := hcut
  have O4 := Lib.hid hr9
  have O3b := Lib.hid (O3.out.next hB9)
  have O1d := Lib.hid (O1c.out.next hB9)
  have O2c := Lib.hid (O2b.out.next hB9)
  have B10 := Lib.hid (bw_trans B9.out hB9)
  clear hr9 hB9 O1c O2b O3 RB9 B9 CQ CO
  have nb1 : (B1 != B1) = false := by simp
  have nb2 : (B2 != B2) = false := by simp
  go_upto_region 12 with (first
    | (go_at_call 11; (with_reducible refine (CL1.out _ _ _ _ _ O1d.out O2c.out).mono ?_); rintro e y1 ⟨rfl, hy1⟩; have O4b := Lib.hid (O4.out.next hy1); have O3c := Lib.hid (O3b.out.next hy1); have B11 := Lib.hid (bw_trans B10.out hy1); clear hy1)
    | (go_at_call 11; (with_reducible refine (CL2.out _ _ _ _ _ O3c.out O4b.out).mono ?_); rintro e y2 ⟨rfl, hy2⟩; have B12 := Lib.hid (bw_trans B11.out hy2); clear hy2))
  go_upto_region 13 with (go_at_call 12; (with_reducible refine (CF.out _ (HR.out.next B12.out)).mono ?_); rintro e x3 ⟨am, di, cm, cd, rfl, hcd, hrm, hru, hbm⟩)
  have OM := Lib.hid hrm
  have OU := Lib.hid hru
  have B13 := Lib.hid (bw_trans B12.out hbm)
  clear hrm hru hbm O1d O2c O3c O4b B10 B11 B12 CF CL1 CL2 nb1 nb2
  go_wp2_with fail
  go_loopw [18, 19] (fun u v wr => CsInv l n x3 u v wr) (fun _ v _ => n - (intOf v).toNat)
  case atStart => exact ⟨0, Nat.zero_le _, rfl, rfl, Below.refl _ _⟩
  case round =>
    obtain ⟨k, hk, rfl, rfl, hG⟩ := hrel
    obtain ⟨c, hc⟩ : ∃ c, cntF l k = c := ⟨_, rfl⟩
    rw [hc]
    have HC := Lib.hid hc
    have HG := Lib.hid hG
    have HGW := Lib.hid (bw_trans B13.out hG)
    clear hG hc
    by_cases hkl : k < n
    · obtain ⟨p, hp⟩ := at_some (l := l) (k := k) (by rw [HN.out]; exact hkl)
      obtain ⟨g1, o1, e1, hg1, hc1⟩ := (HR.out.next HGW.out).at_ k p hp
      obtain ⟨g2, o2, e2, hg2, hc2⟩ := (OM.out.next HG.out).at_ k (offP p) (flushed_at hp)
      subst e1
      subst e2
      have HP := Lib.hid hp
      have hki : (k : Int) < n := by omega
      have hk0 : (0 : Int) ≤ k := by omega
      obtain ⟨fl, hfl⟩ : ∃ f, p.flush = f := ⟨_, rfl⟩
      have cf := hc1 45 (.bool p.flush) rfl
      rw [hfl] at cf
      have ci : wr.cell? ⟨g1, o1 + k * 61, none⟩ = some (.int .u64 p.id) := hc1 0 (.int .u64 p.id) rfl
      have HC1 := Lib.hid hc1
      have HC2 := Lib.hid hc2
      clear hc1 hc2 hp
      go_upto_if 99 with (fail)
      go_cut [18] (fun u wx => u = .int .i64 ((cntF l (k + 1) : Nat) : Int) ∧ Below wr.heap.size wr wx)
      case first =>
        cases fl with
        | false =>
          go_wp2_with fail
          go_meet
          exact ⟨by rw [cnt_no HP.out hfl, HC.out], Below.refl _ _⟩
        | true =>
          have hat := cnt_at HP.out hfl
          rw [HC.out] at hat
          have hcl : c < F := by
            have := (List.getElem?_eq_some_iff.1 hat).1
            rwa [HF.out] at this
          obtain ⟨g3, o3, e3, hg3, hc3⟩ := (OU.out.next HG.out).at_ c p.id hat
          subst e3
          have hcb : c ≤ k := by
            rw [← HC.out]
            exact cnt_le l k
          have hci : (c : Int) < F := by omega
          have hci' : ¬ (c : Int) ≥ F := by omega
          have hc0 : (0 : Int) ≤ c := by omega
          clear hat
          go_upto_region 20 with (fail)
          go_quiet (fail)
          go_wp2_with fail
          go_meet
          exact ⟨by rw [cnt_yes HP.out hfl, HC.out]; go_num, below_drewN (Below.refl _ _) _⟩
      case rest =>
      obtain ⟨rfl, hw⟩ := hcut
      have HW := Lib.hid hw
      have HGX := Lib.hid (bw_trans HG.out hw)
      have hc1 := range_next HC1.out hg1 hw
      have hc2 := range_next HC2.out hg2 hw
      have hg1' := Nat.lt_of_lt_of_le hg1 hw.size
      have hg2' := Nat.lt_of_lt_of_le hg2 hw.size
      clear hw cf ci HC1 HC2 hg1 hg2 HG HGW
      go_upto_region 24 with (first
        | (with_reducible refine wpList_mid rfl _ rfl _ _ rfl p hc1 ?_)
        | (refine wpList_ptst rfl _ _ rfl wc.heap.size rfl p zeroP rfl (ptblk_new _ wc zeroP) ?_))
      obtain ⟨V1, qb, HV1, Hq, k5, B5, hs5⟩ := fillP_is wc p
      refine wp_to (W := V1) (by exact HV1.out.symm) ?_
      rw [Hq.out]
      have B6 : Below wc.heap.size wc V1 := by rw [Hq.out]; exact B5
      have hc2' := range_next hc2 hg2' B6
      obtain ⟨V3, hV3⟩ : ∃ V, V1.setCell ⟨qb, 45, none⟩ (.bool false) = V := ⟨_, rfl⟩
      obtain ⟨r, hr⟩ : ∃ r, offP p = r := ⟨_, rfl⟩
      have KQ3 : PtBlk 47 V3 qb r := by
        rw [← hV3, ← hr]
        exact k5.s_flush false
      have hqb : wc.heap.size ≤ qb := by rw [Hq.out]; exact Nat.le_refl _
      have B7 : Below wc.heap.size wc V3 := by rw [← hV3]; exact B6.setCell (p := ⟨qb, 45, none⟩) hqb _
      have hc3 : V3.rangeAt g2 (o2 + k * 61) (cellsT r).toList := by
        rw [← hr]
        exact range_next hc2 hg2' B7
      have f7 := k5.free 45
      have a7 := k5.c_flush
      have HV3 := Lib.hid hV3
      have BX := Lib.hid (bw_trans HGX.out B7)
      clear hV3 hr B5 B6 B7 HV1 Hq hs5 hc1 hc2 hc2' hqb
      go_upto_region 25 with (fail)
      refine wp_to (W := V3) (by exact HV3.out.symm) ?_
      have hq := run_ptSame r
      refine wp_region_held_drew (S := fun V => V.rangeAt g2 (o2 + k * 61) (cellsT r).toList ∧ PtBlk 47 V qb r) (by kernel_rfl) ⟨range_drawn hc3, KQ3.next (Below.refl _ _).drew⟩ (fun hHeld => ?_)
      try simp only [Act.put]
      refine wpAnyH_take (i := 0) (v := .slice (some ⟨g2, o2, none⟩) n cm) rfl (by kernel_rfl) (by kernel_rfl) (by kernel_rfl) (fun _ _ _ h => h) (yieldsIf_move (by rfl) _ rfl _ rfl) hHeld ?_
      try simp only [Act.put, List.getElem_toArray, List.getElem_cons_succ, List.getElem_cons_zero, List.setIfInBounds_toArray, List.set_cons_zero, List.set_cons_succ]
      refine wpAnyH_take (i := 1) (v := .int .i64 ((k : Nat) : Int)) rfl (by kernel_rfl) (by kernel_rfl) (by kernel_rfl) (fun _ _ _ h => h) (yieldsIf_move (by rfl) _ rfl _ rfl) hHeld ?_
      try simp only [Act.put, List.getElem_toArray, List.getElem_cons_succ, List.getElem_cons_zero, List.setIfInBounds_toArray, List.set_cons_zero, List.set_cons_succ]
      refine wpAnyH_take (i := 2) (v := .pointer (some ⟨g2, o2 + k * 61, none⟩)) rfl (by kernel_rfl) (by kernel_rfl) (by kernel_rfl) (fun _ _ _ h => h) (Or.inl ⟨by rfl, fun V h => by go_simp⟩) hHeld ?_
      try simp only [Act.put, List.getElem_toArray, List.getElem_cons_succ, List.getElem_cons_zero, List.setIfInBounds_toArray, List.set_cons_zero, List.set_cons_succ]
      refine wpAnyH_take (i := 3) (v := .agg (cellsT r)) rfl (by kernel_rfl) (by kernel_rfl) (by kernel_rfl) (fun _ _ _ h => h) (yieldsIf_run (by rfl) 47 _ rfl ⟨g2, o2 + k * 61, none⟩ rfl _ (fun V h => loadMidP h.1)) hHeld ?_
      try simp only [Act.put, List.getElem_toArray, List.getElem_cons_succ, List.getElem_cons_zero, List.setIfInBounds_toArray, List.set_cons_zero, List.set_cons_succ]
      refine wpAnyH_take (i := 4) (v := .agg (cellsT r)) rfl (by kernel_rfl) (by kernel_rfl) (by kernel_rfl) (fun _ _ _ h => h) (yieldsIf_run (by rfl) 47 _ rfl ⟨qb, 0, none⟩ rfl _ (fun V h => loadAt_row h.2 rfl rfl (by kernel_rfl))) hHeld ?_
      try simp only [Act.put, List.getElem_toArray, List.getElem_cons_succ, List.getElem_cons_zero, List.setIfInBounds_toArray, List.set_cons_zero, List.set_cons_succ]
      refine wpAnyH_take (i := 5) (v := .bool false) rfl (by kernel_rfl) (by kernel_rfl) (by kernel_rfl) (fun _ _ _ h => h) (Or.inl ⟨by rfl, fun V h => by have h1 := hq V; go_simp⟩) hHeld ?_
      try simp only [Act.put, List.getElem_toArray, List.getElem_cons_succ, List.getElem_cons_zero, List.setIfInBounds_toArray, List.set_cons_zero, List.set_cons_succ]
      refine wpAnyH_done (by kernel_rfl) ?_ _
      clear hHeld hq hc3 KQ3 f7 a7 k5
      go_wp2_with fail
      exact ⟨⟨k + 1, by omega, rfl, by go_num, BX.out.drew⟩, by simp [intOf]; omega⟩
    · obtain rfl : k = n := by omega
      have hcF : c = F := by
        rw [← HC.out, ← HF.out, ← cnt_all, HN.out]
      rw [hcF]
      go_wp2
      go_ret
      exact ⟨by simp, bw_trans B13.out HG.out⟩
theorem changeSteps_any (i a m h d : Int) (ad : Option Addr) (cap : Nat) (l : List Pt) (at' : Int) (w : World) (hi : Vm.u64B i) (hr : PRow w ad l) (hok : ∀ p ∈ l, PtOk p) :
    Calls Try.prog 3 #[brv i a m h d, .slice ad l.length cap, .int .i64 at'] w fun e w' => e = .returned (.bool true) ∧ Below w.heap.size w w' :=
  steps_any i ⟨a, m, h, d⟩ ad cap l at' w hr
end Go.Proofs.Ytlfmjinllffifaa
