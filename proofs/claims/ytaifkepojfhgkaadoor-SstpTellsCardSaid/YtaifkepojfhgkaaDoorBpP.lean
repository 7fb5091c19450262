/-
  Walks of layer 3: appendNumber, appendNumbers, Print.
-/
import Derived.Test.YtaifkepojfhgkaaDoorBpA
namespace Go.Proofs.YtaifkepojfhgkaaDoor
set_option linter.unusedVariables false
set_option linter.unusedSimpArgs false
open Go.RowKit Bm

/-- The slice v owns, among the blocks from 'base' on, just the bytes of s. -/
def Buf (w : World) (base : Nat) (v : Value) (s : ByteArray) : Prop := w.ownsRow base 5 1 v s.size (Lib.strCells s)
/-- No BPDU that lies in memory has turned. -/
def Kept (w w' : World) : Prop := ∀ T b x, T ≠ 5 → Blk T w b x → Blk T w' b x
def Grew (base : Nat) (w : World) (s : ByteArray) (e : Ending) (w' : World) : Prop := ∃ v', e = .returned v' ∧ Buf w' base v' s ∧ Below base w w' ∧ Kept w w'
theorem Kept.refl (w : World) : Kept w w := fun _ _ _ _ h => h
theorem Kept.trans {a b c : World} (h : Kept a b) (k : Kept b c) : Kept a c := fun T i x hT hx => k T i x hT (h T i x hT hx)
theorem kept_alloc (w : World) (o : Obj) : Kept w (w.alloc o) := fun T i x hT hx => hx.next (below_box w o)
theorem Blk.not_row {T e : TypeId} {w : World} {b : Nat} {x : Bp} (h : Blk T w b x) (hte : T ≠ e) {base size k : Nat} {v : Value} {xs : List Value} (hr : w.ownsRow base e size v k xs) : some b ≠ v.ownBlock := by
  rcases hr.2 with ⟨rfl, _⟩ | ⟨g, cap, cur, rfl, _, hgb, _⟩
  · simp [Value.ownBlock]
  · intro e'
    obtain rfl : b = g := by simpa [Value.ownBlock] using e'
    have := (show w.heap[b]? = _ from h).symm.trans hgb
    simp at this
    exact hte this.2
theorem kept_grown {w w' : World} {base size k : Nat} {v : Value} {xs : List Value} (hr : w.ownsRow base 5 size v k xs) (hg : w.grownBy w' v.ownBlock) : Kept w w' := fun T i x hT hx =>
  (hg.block i hx.lt (hx.not_row hT hr)).trans hx

theorem infoU8 : (Tryd.prog.info? 5).map (fun i => (i.zero, i.size, i.bytes)) = some (some (.int .u8 0), 1, 1) := by kernel_rfl

theorem strCells_append (a b : ByteArray) : Lib.strCells (a ++ b) = Lib.strCells a ++ Lib.strCells b := by
  simp [Lib.strCells]

theorem buf_step {w w' : World} {base : Nat} {v v' : Value} {s t : ByteArray} {xs : List Value} (hx : xs = Lib.strCells t) (h : Buf w base v s) (h1 : w'.ownsRow base 5 1 v' (s.size + xs.length) (Lib.strCells s ++ xs)) (hg : w.grownBy w' v.ownBlock) (hb : base ≤ w.heap.size) :
    Buf w' base v' (s ++ t) ∧ Below base w w' := by
  subst hx
  refine ⟨?_, (Below.refl _ _).grown hg hb fun k hk => (h.lt k hk).1⟩
  unfold Buf
  rw [strCells_append, ByteArray.size_append]
  rw [Lib.strCells_length] at h1
  exact h1

theorem byte_int (n : Int) (h0 : 0 ≤ n) (h1 : n < 256) : Value.int .u8 n = Value.int .u8 ((UInt8.ofNat n.toNat).toNat : Int) := by
  congr 1
  rw [UInt8.toNat_ofNat']
  omega
theorem bytes_none (s : ByteArray) (h : s.size = 0) : s = ByteArray.empty := by
  obtain ⟨a⟩ := s
  obtain rfl : a = #[] := Array.eq_empty_of_size_eq_zero h
  rfl
/-- Owned bytes, turned into a string, are that string. -/
theorem buf_string {w : World} {base : Nat} {v : Value} {s : ByteArray} (h : Buf w base v s) :
    Sem.run Tryd.prog (convert 43 9 v) w = .ok (.string s) w := by
  obtain ⟨hl, h2⟩ := h
  rcases h2 with ⟨rfl, hn⟩ | ⟨g, cap, cur, rfl, hbg, hg, hnc, hcm, hcs, htake⟩
  · rw [run_convert_bytes_nil w 43 5 Tryd.underlying43 Tryd.underlying5 0 0 9 Tryd.underlying9]
    rw [bytes_none s hn]
  · have e : s.size = s.data.toList.length := by rw [Array.length_toList]; rfl
    have hb := run_convert_bytes_back (P := Tryd.prog) w 43 9 5 ⟨g, 0, none⟩ cap s.data.toList Tryd.underlying43 Tryd.underlying5 Tryd.underlying9 (by
      intro j hj
      rw [Addr.add_lit]
      have hc : w.cell? ⟨g, 0 + j, none⟩ = cur[j]? := by simp [World.cell?, hg]
      rw [hc]
      have ht : (cur.toList.take (s.size * 1))[j]? = (Lib.strCells s)[j]? := by rw [htake]
      rw [List.getElem?_take_of_lt (by omega)] at ht
      rw [← Array.getElem?_toList, ht]
      rw [Array.length_toList] at hj
      simp only [Lib.strCells, List.getElem?_map, Array.getElem?_toList, Array.getElem_toList]
      rw [Array.getElem?_eq_getElem hj]
      rfl)
    rw [← e] at hb
    rw [hb]

theorem app_assoc (a b c : ByteArray) : a ++ b ++ c = a ++ (b ++ c) := ByteArray.append_assoc
theorem app_nil (a : ByteArray) : a ++ (⟨#[]⟩ : ByteArray) = a := ByteArray.append_empty
theorem nil_app (a : ByteArray) : (⟨#[]⟩ : ByteArray) ++ a = a := ByteArray.empty_append
/-- The next byte's cell, as the walk spells it. -/
theorem be_cell (n : Int) (j : Nat) (h0 : 0 ≤ n) : [Value.int .u8 (n / 2 ^ (8 * j) % 256)] = Lib.strCells ⟨#[UInt8.ofNat (n.toNat / 256 ^ j % 256)]⟩ := by
  obtain ⟨N, rfl⟩ := Int.eq_ofNat_of_zero_le h0
  have e : ((N : Int) / 2 ^ (8 * j) % 256) = ((N / 256 ^ j % 256 : Nat) : Int) := by
    have e1 : (2 : Nat) ^ (8 * j) = 256 ^ j := by rw [Nat.pow_mul]
    have e2 : (2 : Int) ^ (8 * j) = ((256 ^ j : Nat) : Int) := by rw [← e1]; simp
    rw [e2]
    simp
  rw [e, byte_int _ (by omega) (by omega)]
  rfl

/-- Behind rounds: j bytes are still to come. -/
def PInv (base : Nat) (w : World) (s : ByteArray) (n : Int) (k : Nat) (v left : Value) (wr : World) : Prop :=
  ∃ (j : Nat) (a : ByteArray), left = .int .i64 ((j : Int) - 1) ∧ j ≤ k ∧ a ++ be n.toNat j = s ++ be n.toNat k ∧ a.size + j = s.size + k ∧ Buf wr base v a ∧ Below base w wr ∧ base ≤ wr.heap.size ∧ Kept w wr

set_option maxHeartbeats 1000000 in
theorem appendNumber_any (base : Nat) (v : Value) (s : ByteArray) (n : Int) (k : Nat) (w : World) (hn : u64B n) (hk : k ≤ 8) (hown : Buf w base v s) (hb : base ≤ w.heap.size) (hs : s.size ≤ 1000000) :
    Calls Tryd.prog 28 #[v, .int .u64 n, .int .i64 k] w (Grew base w (s ++ be n.toNat k)) := by
  obtain ⟨i0, hi, hz0, hz1, hz2⟩ := info_parts infoU8
  obtain ⟨hn0, hn1⟩ := hn
  go_enter Tryd.func28, Tryd.ntmps28
  go_wp2_with fail
  go_loopw [0, 7] (fun v' l wr => PInv base w s n k v' l wr) (fun _ l _ => (intOf l + 1).toNat)
  case atStart => exact ⟨k, s, rfl, Nat.le_refl _, rfl, rfl, hown, Below.refl _ _, hb, Kept.refl _⟩
  case round =>
    clear hown
    obtain ⟨j, a, rfl, hj, ha, hsz, hbuf, BR, hbr, hkp⟩ := hrel
    have HA := Lib.hid ha; clear ha
    have HP := Lib.hid hkp; clear hkp
    rcases j with _ | j
    · have HB := Lib.hid hbuf; clear hbuf
      go_wp2
      go_ret
      refine ⟨_, rfl, ?_, BR, HP.out⟩
      have e := HA.out
      rw [be, app_nil] at e
      rw [← e]
      exact HB.out
    · go_wp2_with (at_builtin; refine wpList_append_own _ rfl _ _ 43 rfl base 5 i0 (.int .u8 0) 1 1 Tryd.underlying43 hi hz0 hz1 hz2 rfl (by decide) _ _ _ rfl (hbuf.alloc _) ⟨wr.heap.size, 0, none⟩ 1 1 [.int .u8 (n / 2 ^ (8 * j) % 256)] rfl rfl ?c1 ?c2 ?c3 ?c4 ?c5 ?_)
      case c1 =>
        intro i u hu
        match i, hu with
        | 0, hu => simp at hu; subst hu; simp [Addr.add]
      case c2 => intro u hu; simp at hu; subst hu; rfl
      case c3 => unfold maxLen; omega
      case c4 => omega
      case c5 => simp; omega
      intro v' w1 hown' hgrow _
      have R := buf_step (be_cell n j hn0) (hbuf.alloc _) hown' hgrow (by simp; omega)
      have R2 := (BR.trans (((Below.refl base wr).alloc hbr _).trans R.2))
      have RN : PInv base w s n k v' (.int .i64 ((j : Int) - 1)) w1 := ⟨j, _, rfl, by omega, by rw [app_assoc]; exact HA.out, by rw [ByteArray.size_append]; show a.size + 1 + j = _; omega, R.1, R2, Nat.le_trans (by simp; omega) R.2.size, HP.out.trans ((kept_alloc wr _).trans (kept_grown (hbuf.alloc _) hgrow))⟩
      have RR := Lib.hid RN
      clear R R2 RN hown' hgrow hbuf BR HA HP
      go_wp2
      go_roundw
      case rel => exact RR.out
      case measure => simp [intOf]

/-- The same, with the answer's length kept within a bound. -/
theorem grew_be {w w' : World} {base N : Nat} {s t : ByteArray} {e : Ending} (h : Grew base w (s ++ t) e w') (hb : base ≤ w.heap.size) (hN : s.size + t.size ≤ N) :
    ∃ v' a, e = .returned v' ∧ Hid (a = s ++ t) ∧ a.size ≤ N ∧ Buf w' base v' a ∧ Below base w w' ∧ base ≤ w'.heap.size ∧ Kept w w' := by
  obtain ⟨v', he, h1, h2, h3⟩ := h
  exact ⟨v', s ++ t, he, rfl, by rw [ByteArray.size_append]; exact hN, h1, h2, Nat.le_trans hb h2.size, h3⟩
theorem u64_in (n m : Int) (h0 : 0 ≤ n) (h1 : n ≤ m) (hm : m ≤ 1000000) : u64B n := ⟨h0, by omega⟩

set_option maxHeartbeats 2000000 in
theorem appendNumbers_any (base : Nat) (v0 : Value) (s : ByteArray) (k f r c b p a m h d : Int) (w : World) (hr : numsB ⟨k, f, r, c, b, p, a, m, h, d⟩ = true) (hok : Bp.ok ⟨k, f, r, c, b, p, a, m, h, d⟩) (hown : Buf w base v0 s) (hb : base ≤ w.heap.size) (hs : s.size ≤ 4) :
    Calls Tryd.prog 20 #[v0, bv k f r c b p a m h d] w (Grew base w (s ++ numsOf ⟨k, f, r, c, b, p, a, m, h, d⟩)) := by
  simp only [numsB, withinB, Bool.and_eq_true, decide_eq_true_eq] at hr
  obtain ⟨⟨lf, uf⟩, uc, up, ⟨la, ua⟩, ⟨lm, um⟩, ⟨lh, uh⟩, ld, ud⟩ := hr
  obtain ⟨u1, u2, u3, u4⟩ := hok
  simp only at u1 u2 u3 u4
  have U1 := Lib.hid u1
  have U2 := Lib.hid u2
  have U3 := Lib.hid u3
  have U4 := Lib.hid u4
  clear u1 u2 u3 u4
  unfold bv
  go_enter Tryd.func20, Tryd.ntmps20
  go_wp2_with fail
  have k0 := blk_new 26 w k f r c b p a m h d
  have B0 : Below base w (w.alloc (.cells #[.int .i64 k, .int .i64 f, .int .u64 r, .int .u64 c, .int .u64 b, .int .u64 p, .int .i64 a, .int .i64 m, .int .i64 h, .int .i64 d] 26)) := (Below.refl base w).alloc hb _
  have KK0 := kept_alloc w (.cells #[.int .i64 k, .int .i64 f, .int .u64 r, .int .u64 c, .int .u64 b, .int .u64 p, .int .i64 a, .int .i64 m, .int .i64 h, .int .i64 d] 26)
  have b0 := hown.alloc (.cells #[.int .i64 k, .int .i64 f, .int .u64 r, .int .u64 c, .int .u64 b, .int .u64 p, .int .i64 a, .int .i64 m, .int .i64 h, .int .i64 d] 26)
  have z0 : base ≤ (w.alloc (.cells #[.int .i64 k, .int .i64 f, .int .u64 r, .int .u64 c, .int .u64 b, .int .u64 p, .int .i64 a, .int .i64 m, .int .i64 h, .int .i64 d] 26)).heap.size := by simp; omega
  clear hown hb
  refine (appendNumber_any base _ s f 1 _ (u64_in f 255 lf uf (by decide)) (by omega) b0 z0 (by omega)).mono ?_
  rintro e w1 hg
  obtain ⟨v1, a1, rfl, H1, n1, b1, B1', z1, K1⟩ := grew_be (N := 5) hg z0 (by rw [be_size]; omega)
  have k1 := K1 _ _ _ (by decide) k0
  have B1 := B0.trans B1'
  have KK1 := KK0.trans K1
  clear hg K1 k0 b0 B0 B1' z0 KK0
  have y := k1.cells
  obtain ⟨cc0, cc1, cc2, cc3, cc4, cc5, cc6, cc7, cc8, cc9⟩ := y
  go_wp2_with fail
  refine (appendNumber_any base _ a1 r 8 _ U1.out (by omega) b1 z1 (by omega)).mono ?_
  rintro e w2 hg
  obtain ⟨v2, a2, rfl, H2, n2, b2, B2', z2, K2⟩ := grew_be (N := 13) hg z1 (by rw [be_size]; omega)
  have k2 := K2 _ _ _ (by decide) k1
  have B2 := B1.trans B2'
  have KK2 := KK1.trans K2
  clear hg K2 k1 b1 B1 B2' z1 KK1 cc0 cc1 cc2 cc3 cc4 cc5 cc6 cc7 cc8 cc9
  have y := k2.cells
  obtain ⟨cc0, cc1, cc2, cc3, cc4, cc5, cc6, cc7, cc8, cc9⟩ := y
  go_wp2_with fail
  refine (appendNumber_any base _ a2 c 4 _ U2.out (by omega) b2 z2 (by omega)).mono ?_
  rintro e w3 hg
  obtain ⟨v3, a3, rfl, H3, n3, b3, B3', z3, K3⟩ := grew_be (N := 17) hg z2 (by rw [be_size]; omega)
  have k3 := K3 _ _ _ (by decide) k2
  have B3 := B2.trans B3'
  have KK3 := KK2.trans K3
  clear hg K3 k2 b2 B2 B3' z2 KK2 cc0 cc1 cc2 cc3 cc4 cc5 cc6 cc7 cc8 cc9
  have y := k3.cells
  obtain ⟨cc0, cc1, cc2, cc3, cc4, cc5, cc6, cc7, cc8, cc9⟩ := y
  go_wp2_with fail
  refine (appendNumber_any base _ a3 b 8 _ U3.out (by omega) b3 z3 (by omega)).mono ?_
  rintro e w4 hg
  obtain ⟨v4, a4, rfl, H4, n4, b4, B4', z4, K4⟩ := grew_be (N := 25) hg z3 (by rw [be_size]; omega)
  have k4 := K4 _ _ _ (by decide) k3
  have B4 := B3.trans B4'
  have KK4 := KK3.trans K4
  clear hg K4 k3 b3 B3 B4' z3 KK3 cc0 cc1 cc2 cc3 cc4 cc5 cc6 cc7 cc8 cc9
  have y := k4.cells
  obtain ⟨cc0, cc1, cc2, cc3, cc4, cc5, cc6, cc7, cc8, cc9⟩ := y
  go_wp2_with fail
  refine (appendNumber_any base _ a4 p 2 _ U4.out (by omega) b4 z4 (by omega)).mono ?_
  rintro e w5 hg
  obtain ⟨v5, a5, rfl, H5, n5, b5, B5', z5, K5⟩ := grew_be (N := 27) hg z4 (by rw [be_size]; omega)
  have k5 := K5 _ _ _ (by decide) k4
  have B5 := B4.trans B5'
  have KK5 := KK4.trans K5
  clear hg K5 k4 b4 B4 B5' z4 KK4 cc0 cc1 cc2 cc3 cc4 cc5 cc6 cc7 cc8 cc9
  have y := k5.cells
  obtain ⟨cc0, cc1, cc2, cc3, cc4, cc5, cc6, cc7, cc8, cc9⟩ := y
  go_wp2_with fail
  refine (appendNumber_any base _ a5 a 2 _ (u64_in a 65535 la ua (by decide)) (by omega) b5 z5 (by omega)).mono ?_
  rintro e w6 hg
  obtain ⟨v6, a6, rfl, H6, n6, b6, B6', z6, K6⟩ := grew_be (N := 29) hg z5 (by rw [be_size]; omega)
  have k6 := K6 _ _ _ (by decide) k5
  have B6 := B5.trans B6'
  have KK6 := KK5.trans K6
  clear hg K6 k5 b5 B5 B6' z5 KK5 cc0 cc1 cc2 cc3 cc4 cc5 cc6 cc7 cc8 cc9
  have y := k6.cells
  obtain ⟨cc0, cc1, cc2, cc3, cc4, cc5, cc6, cc7, cc8, cc9⟩ := y
  go_wp2_with fail
  refine (appendNumber_any base _ a6 m 2 _ (u64_in m 65535 lm um (by decide)) (by omega) b6 z6 (by omega)).mono ?_
  rintro e w7 hg
  obtain ⟨v7, a7, rfl, H7, n7, b7, B7', z7, K7⟩ := grew_be (N := 31) hg z6 (by rw [be_size]; omega)
  have k7 := K7 _ _ _ (by decide) k6
  have B7 := B6.trans B7'
  have KK7 := KK6.trans K7
  clear hg K7 k6 b6 B6 B7' z6 KK6 cc0 cc1 cc2 cc3 cc4 cc5 cc6 cc7 cc8 cc9
  have y := k7.cells
  obtain ⟨cc0, cc1, cc2, cc3, cc4, cc5, cc6, cc7, cc8, cc9⟩ := y
  go_wp2_with fail
  refine (appendNumber_any base _ a7 h 2 _ (u64_in h 65535 lh uh (by decide)) (by omega) b7 z7 (by omega)).mono ?_
  rintro e w8 hg
  obtain ⟨v8, a8, rfl, H8, n8, b8, B8', z8, K8⟩ := grew_be (N := 33) hg z7 (by rw [be_size]; omega)
  have k8 := K8 _ _ _ (by decide) k7
  have B8 := B7.trans B8'
  have KK8 := KK7.trans K8
  clear hg K8 k7 b7 B7 B8' z7 KK7 cc0 cc1 cc2 cc3 cc4 cc5 cc6 cc7 cc8 cc9
  have y := k8.cells
  obtain ⟨cc0, cc1, cc2, cc3, cc4, cc5, cc6, cc7, cc8, cc9⟩ := y
  go_wp2_with fail
  refine (appendNumber_any base _ a8 d 2 _ (u64_in d 65535 ld ud (by decide)) (by omega) b8 z8 (by omega)).mono ?_
  rintro e w9 hg
  obtain ⟨v9, a9, rfl, H9, n9, b9, B9', z9, K9⟩ := grew_be (N := 35) hg z8 (by rw [be_size]; omega)
  have k9 := K9 _ _ _ (by decide) k8
  have B9 := B8.trans B9'
  have KK9 := KK8.trans K9
  clear hg K9 k8 b8 B8 B9' z8 KK8 cc0 cc1 cc2 cc3 cc4 cc5 cc6 cc7 cc8 cc9
  have y := k9.cells
  obtain ⟨cc0, cc1, cc2, cc3, cc4, cc5, cc6, cc7, cc8, cc9⟩ := y
  go_wp2
  go_ret
  refine ⟨_, rfl, ?_, B9, KK9⟩
  have e : a9 = s ++ numsOf ⟨k, f, r, c, b, p, a, m, h, d⟩ := by
    rw [H9.out, H8.out, H7.out, H6.out, H5.out, H4.out, H3.out, H2.out, H1.out]
    simp only [numsOf, app_assoc]
  rw [← e]
  exact b9
end Go.Proofs.YtaifkepojfhgkaaDoor
