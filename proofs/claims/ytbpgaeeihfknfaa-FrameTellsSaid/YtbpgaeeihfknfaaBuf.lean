/-
  A slice of bytes that a call makes and fills: it owns the bytes of a string. What append, make and the conversion to a string do to it.
-/
import Derived.Test.YtbpgaeeihfknfaaFrA
import Derived.Lib.AppendStr
import Derived.Laws.IdiomStrings
namespace Go.Proofs.Ytbpgaeeihfknfaa
set_option linter.unusedVariables false
set_option linter.unusedSimpArgs false
open Go.RowKit Fm

/-- The slice v owns, among the blocks from 'base' on, just the bytes of s. -/
def Buf (w : World) (base : Nat) (v : Value) (s : ByteArray) : Prop := w.ownsRow base 5 1 v s.size (Lib.strCells s)
def Grew (base : Nat) (w : World) (s : ByteArray) (e : Ending) (w' : World) : Prop := ∃ v', e = .returned v' ∧ Buf w' base v' s ∧ Below base w w'

theorem infoU8 : (Try.prog.info? 5).map (fun i => (i.zero, i.size, i.bytes)) = some (some (.int .u8 0), 1, 1) := by kernel_rfl

theorem strCells_append (a b : ByteArray) : Lib.strCells (a ++ b) = Lib.strCells a ++ Lib.strCells b := by
  simp [Lib.strCells]

theorem buf_step {w w' : World} {base : Nat} {v v' : Value} {s t : ByteArray} {xs : List Value} (hx : xs = Lib.strCells t) (h : Buf w base v s) (h1 : w'.ownsRow base 5 1 v' (s.size + xs.length) (Lib.strCells s ++ xs)) (hg : w.grownBy w' v.ownBlock) (hb : base ≤ w.heap.size) :
    Buf w' base v' (s ++ t) ∧ Below base w w' := by
  subst hx
  refine ⟨?_, (Below.refl _ _).grown hg hb fun k hk => (h.lt k hk).1⟩
  unfold Buf
  rw [strCells_append, ByteArray.size_append]
  rw [Lib.strCells_length] at h1
  exact h1

theorem byte_int (n : Int) (h0 : 0 ≤ n) (h1 : n < 256) : Value.int .u8 n = Value.int .u8 ((UInt8.ofNat n.toNat).toNat : Int) := by
  congr 1
  rw [UInt8.toNat_ofNat']
  omega

theorem w16_cells (n : Int) : [Value.int .u8 (n / 256 % 256), Value.int .u8 (n % 256)] = Lib.strCells (w16 n) := by
  rw [byte_int (n / 256 % 256) (by omega) (by omega), byte_int (n % 256) (by omega) (by omega)]
  rfl

set_option maxHeartbeats 400000 in
theorem appendNumber_any (base : Nat) (v : Value) (s : ByteArray) (n : Int) (w : World) (h0 : -1000000 ≤ n) (h1 : n ≤ 1000000) (hown : Buf w base v s) (hb : base ≤ w.heap.size) (hs : s.size ≤ 1000000) :
    Calls Try.prog 21 #[v, .int .i64 n] w (Grew base w (s ++ w16 n)) := by
  obtain ⟨i0, hi, hz0, hz1, hz2⟩ := info_parts infoU8
  go_enter Try.func21, Try.ntmps21
  go_wp2_with (at_builtin; refine wpList_append_own _ rfl _ _ 46 rfl base 5 i0 (.int .u8 0) 1 1 Try.underlying46 hi hz0 hz1 hz2 rfl (by decide) _ _ _ rfl (hown.alloc _) ⟨w.heap.size, 0, none⟩ 2 2 [.int .u8 (n / 256 % 256), .int .u8 (n % 256)] rfl rfl ?c1 ?c2 ?c3 ?c4 ?c5 ?_)
  case c1 =>
    intro j u hj
    match j, hj with
    | 0, hj => simp at hj; subst hj; simp [Addr.add]
    | 1, hj => simp at hj; subst hj; simp [Addr.add]
  case c2 => intro u hu; simp at hu; rcases hu with rfl | rfl <;> rfl
  case c3 => unfold maxLen; omega
  case c4 => omega
  case c5 => simp; omega
  intro v' w1 hown' hgrow _
  have R := buf_step (w16_cells n) (hown.alloc _) hown' hgrow (by simp; omega)
  have R2 := (((Below.refl base w).alloc hb _).trans R.2)
  have RR : Hid (Buf w1 base v' (s ++ w16 n) ∧ Below base w w1) := ⟨R.1, R2⟩
  clear R R2 hown' hgrow hown
  go_wp2
  go_ret
  exact ⟨v', rfl, RR.out.1, RR.out.2⟩

theorem bytes_none (s : ByteArray) (h : s.size = 0) : s = ByteArray.empty := by
  obtain ⟨a⟩ := s
  obtain rfl : a = #[] := Array.eq_empty_of_size_eq_zero h
  rfl

theorem buf_app {w w' : World} {base N n : Nat} {v v' : Value} {s t : ByteArray} (h : Buf w base v s) (h1 : w'.ownsRow base 5 1 v' n (Lib.strCells s ++ Lib.strCells t)) (hn : n = s.size + t.size) (hg : w.grownBy w' v.ownBlock) (hb : base ≤ w.heap.size) (hN : s.size + t.size ≤ N) :
    ∃ a, Hid (a = s ++ t) ∧ a.size ≤ N ∧ Buf w' base v' a ∧ Below base w w' ∧ base ≤ w'.heap.size := by
  have e := Lib.strCells_length t
  subst hn
  have R := buf_step rfl h (by rw [e]; exact h1) hg hb
  exact ⟨s ++ t, rfl, by rw [ByteArray.size_append]; exact hN, R.1, R.2, Nat.le_trans hb R.2.size⟩

theorem grew_app {w w' : World} {base N : Nat} {s t : ByteArray} {e : Ending} (h : Grew base w (s ++ t) e w') (hb : base ≤ w.heap.size) (hN : s.size + t.size ≤ N) :
    ∃ v' a, e = .returned v' ∧ Hid (a = s ++ t) ∧ a.size ≤ N ∧ Buf w' base v' a ∧ Below base w w' ∧ base ≤ w'.heap.size := by
  obtain ⟨v', he, h1, h2⟩ := h
  exact ⟨v', s ++ t, he, rfl, by rw [ByteArray.size_append]; exact hN, h1, h2, Nat.le_trans hb h2.size⟩

theorem w16_size (n : Int) : (w16 n).size = 2 := rfl

/-- Owned bytes, turned into a string, are that string. -/
theorem buf_string {w : World} {base : Nat} {v : Value} {s : ByteArray} (h : Buf w base v s) :
    Sem.run Try.prog (convert 46 9 v) w = .ok (.string s) w := by
  obtain ⟨hl, h2⟩ := h
  rcases h2 with ⟨rfl, hn⟩ | ⟨g, cap, cur, rfl, hbg, hg, hnc, hcm, hcs, htake⟩
  · rw [run_convert_bytes_nil w 46 5 Try.underlying46 Try.underlying5 0 0 9 Try.underlying9]
    rw [bytes_none s hn]
  · have e : s.size = s.data.toList.length := by rw [Array.length_toList]; rfl
    have hb := run_convert_bytes_back (P := Try.prog) w 46 9 5 ⟨g, 0, none⟩ cap s.data.toList Try.underlying46 Try.underlying5 Try.underlying9 (by
      intro j hj
      rw [Addr.add_lit]
      have hc : w.cell? ⟨g, 0 + j, none⟩ = cur[j]? := by simp [World.cell?, hg]
      rw [hc]
      have ht : (cur.toList.take (s.size * 1))[j]? = (Lib.strCells s)[j]? := by rw [htake]
      rw [List.getElem?_take_of_lt (by omega)] at ht
      rw [← Array.getElem?_toList, ht]
      rw [Array.length_toList] at hj
      simp only [Lib.strCells, List.getElem?_map, Array.getElem?_toList, Array.getElem_toList]
      rw [Array.getElem?_eq_getElem hj]
      rfl)
    rw [← e] at hb
    rw [hb]

set_option maxHeartbeats 400000 in
theorem print_no (d s : ByteArray) (t : Bool) (p v ty : Int) (pl : ByteArray) (w : World) (hd : d.size ≤ maxLen) (hs : s.size ≤ maxLen) (hp : pl.size ≤ maxLen) (hr : rightB ⟨d, s, t, p, v, ty, pl⟩ = false) :
    Calls Try.prog 8 #[fv d s t p v ty pl] w fun e w' => e = .returned (.tuple #[.string ⟨#[]⟩, .int .i64 2]) ∧ Below w.heap.size w w' := by
  go_enter Try.func8, Try.ntmps8
  go_wp2_with (go_at_call 12; refine (right_any _ _ _ _ _ _ _ _ hd hs hp).mono ?_; rintro e w' ⟨rfl, hb1⟩)
  go_ret2
  exact ⟨rfl, bw_trans (below_box _ _) hb1⟩

def Boxed (w : World) (b : Nat) (d s : ByteArray) (t : Bool) (p v ty : Int) (pl : ByteArray) : Prop :=
  w.cell? ⟨b, 0, none⟩ = some (.string d) ∧ w.cell? ⟨b, 1, none⟩ = some (.string s) ∧ w.cell? ⟨b, 2, none⟩ = some (.bool t) ∧ w.cell? ⟨b, 3, none⟩ = some (.int .i64 p) ∧ w.cell? ⟨b, 4, none⟩ = some (.int .i64 v) ∧ w.cell? ⟨b, 5, none⟩ = some (.int .i64 ty) ∧ w.cell? ⟨b, 6, none⟩ = some (.string pl)

theorem Boxed.below {w w' : World} {b B : Nat} {d s : ByteArray} {t : Bool} {p v ty : Int} {pl : ByteArray} (h : Boxed w b d s t p v ty pl) (hb : Below B w w') (hB : b < B) : Boxed w' b d s t p v ty pl := by
  obtain ⟨h0, h1, h2, h3, h4, h5, h6⟩ := h
  exact ⟨(hb.cell (p := ⟨b, 0, none⟩) hB).trans h0, (hb.cell (p := ⟨b, 1, none⟩) hB).trans h1, (hb.cell (p := ⟨b, 2, none⟩) hB).trans h2, (hb.cell (p := ⟨b, 3, none⟩) hB).trans h3, (hb.cell (p := ⟨b, 4, none⟩) hB).trans h4, (hb.cell (p := ⟨b, 5, none⟩) hB).trans h5, (hb.cell (p := ⟨b, 6, none⟩) hB).trans h6⟩

theorem boxed_new (w : World) (d s : ByteArray) (t : Bool) (p v ty : Int) (pl : ByteArray) (T : TypeId) :
    Boxed (w.alloc (.cells #[.string d, .string s, .bool t, .int .i64 p, .int .i64 v, .int .i64 ty, .string pl] T)) w.heap.size d s t p v ty pl := by
  refine ⟨?_, ?_, ?_, ?_, ?_, ?_, ?_⟩ <;> simp

set_option maxHeartbeats 1000000 in
theorem print_yes (d s : ByteArray) (t : Bool) (p v ty : Int) (pl : ByteArray) (w : World) (hr : rightB ⟨d, s, t, p, v, ty, pl⟩ = true) :
    Calls Try.prog 8 #[fv d s t p v ty pl] w fun e w' => e = .returned (.tuple #[.string (bytesOf ⟨d, s, t, p, v, ty, pl⟩), .int .i64 0]) ∧ Below w.heap.size w w' := by
  obtain ⟨i0, hi, hz0, hz1, hz2⟩ := info_parts infoU8
  obtain ⟨hd, hs, hg, ht, hp0, hp1, hp2⟩ := right_parts hr
  have Hd := Lib.hid hd; clear hd
  have Hs := Lib.hid hs; clear hs
  go_enter Try.func8, Try.ntmps8
  go_wp2_with fail
  refine (right_any _ _ _ _ _ _ _ _ (by rw [Hd.out]; decide) (by rw [Hs.out]; decide) (by unfold maxLen; omega)).mono ?_
  rintro e w1 ⟨rfl, hb1⟩
  have B1 := bw_trans (below_box _ _) hb1
  have hsz1 := hb1.size
  simp at hsz1
  have x1 := (boxed_new w d s t p v ty pl _).below hb1 (by simp)
  have y1 := x1
  obtain ⟨c0, c1, c2, c3, c4, c5, c6⟩ := y1
  clear hb1
  go_wp2_with (at_make; refine wpList_make_own _ rfl _ _ 46 rfl w1.heap.size 5 i0 (.int .u8 0) 1 Try.underlying46 hi hz0 hz1 _ _ _ (18 + pl.size) rfl rfl (by omega) ?c1 ?c2 ?c3 ?_)
  case c1 => rw [hz2]; omega
  case c2 => unfold maxLen; omega
  case c3 => exact Nat.le_refl _
  intro w2 hown2 hgr2
  have B2 : Below w1.heap.size w1 w2 := (Below.refl _ _).grown hgr2 (Nat.le_refl _) (by simp)
  have b2 : Buf w2 w1.heap.size (.slice (some ⟨w1.heap.size, 0, none⟩) 0 (18 + pl.size)) ⟨#[]⟩ := hown2
  have z2 : w1.heap.size ≤ w2.heap.size := B2.size
  clear hown2 hgr2 c0 c1 c2 c3 c4 c5 c6
  have x2 := x1.below B2 (by omega)
  have y2 := x2
  obtain ⟨c0, c1, c2, c3, c4, c5, c6⟩ := y2
  go_wp2_with (at_builtin; refine Lib.wpList_append_own_string _ rfl _ _ 46 9 rfl w1.heap.size 5 i0 Try.underlying46 Try.underlying9 hi hz0 hz1 hz2 _ _ _ rfl b2 d rfl ?d1 ?d2 ?d3 ?_)
  case d1 => rw [Hd.out]; decide
  case d2 => rw [Hd.out]; decide
  case d3 => exact z2
  intro v3 w3 ho hg3 _
  obtain ⟨a3, H3, n3, b3, B3, z3⟩ := buf_app (N := 6) b2 ho (by show d.size = 0 + d.size; omega) hg3 z2 (by rw [Hd.out]; decide)
  clear ho hg3 c0 c1 c2 c3 c4 c5 c6
  have x3 := x2.below B3 (by omega)
  have y3 := x3
  obtain ⟨c0, c1, c2, c3, c4, c5, c6⟩ := y3
  go_wp2_with (at_builtin; refine Lib.wpList_append_own_string _ rfl _ _ 46 9 rfl w1.heap.size 5 i0 Try.underlying46 Try.underlying9 hi hz0 hz1 hz2 _ _ _ rfl b3 s rfl ?e1 ?e2 ?e3 ?_)
  case e1 => rw [Hs.out]; unfold maxLen; omega
  case e2 => rw [Hs.out]; omega
  case e3 => exact z3
  intro v4 w4 ho hg4 _
  obtain ⟨a4, H4, n4, b4, B4, z4⟩ := buf_app (N := 12) b3 ho rfl hg4 z3 (by rw [Hs.out]; omega)
  clear ho hg4 c0 c1 c2 c3 c4 c5 c6
  have x4 := x3.below B4 (by omega)
  have y4 := x4
  obtain ⟨c0, c1, c2, c3, c4, c5, c6⟩ := y4
  cases t with
  | false =>
    go_wp2_with fail
    refine (appendNumber_any w1.heap.size _ a4 ty _ (by omega) (by omega) b4 z4 (by omega)).mono ?_
    rintro e w7 hgw
    obtain ⟨v7, a7, rfl, H7, n7, b7, B7, z7⟩ := grew_app (N := 14) hgw z4 (by rw [w16_size]; omega)
    clear hgw c0 c1 c2 c3 c4 c5 c6
    have x7 := x4.below B7 (by omega)
    have y7 := x7
    obtain ⟨c0, c1, c2, c3, c4, c5, c6⟩ := y7
    go_wp2_with (at_builtin; refine Lib.wpList_append_own_string _ rfl _ _ 46 9 rfl w1.heap.size 5 i0 Try.underlying46 Try.underlying9 hi hz0 hz1 hz2 _ _ _ rfl b7 pl rfl ?f1 ?f2 ?f3 ?_)
    case f1 => unfold maxLen; omega
    case f2 => omega
    case f3 => exact z7
    intro v8 w8 ho hg8 _
    obtain ⟨a8, H8, n8, b8, B8, z8⟩ := buf_app (N := 1514) b7 ho rfl hg8 z7 (by omega)
    clear ho hg8 c0 c1 c2 c3 c4 c5 c6
    have k8 := buf_string b8
    go_wp2
    go_ret2
    refine ⟨?_, (((((B1.trans (B2.mono (by omega))).trans (B3.mono (by omega))).trans (B4.mono (by omega))).trans (B7.mono (by omega))).trans (B8.mono (by omega)))⟩
    rw [H8.out, H7.out, H4.out, H3.out, bytes_plain d s p v ty pl]
    rfl
  | true =>
    go_wp2_with fail
    refine (appendNumber_any w1.heap.size _ a4 33024 _ (by omega) (by omega) b4 z4 (by omega)).mono ?_
    rintro e w5 hgw
    obtain ⟨v5, a5, rfl, H5, n5, b5, B5, z5⟩ := grew_app (N := 14) hgw z4 (by rw [w16_size]; omega)
    clear hgw c0 c1 c2 c3 c4 c5 c6
    have x5 := x4.below B5 (by omega)
    have y5 := x5
    obtain ⟨c0, c1, c2, c3, c4, c5, c6⟩ := y5
    have hj : bits BinOp.or IntKind.i64 (p * 8192) v = p * 8192 + v := i64_join 13 _ _ (by omega) (by omega) (by simp) (by omega) (by omega) (by omega)
    go_wp2_with fail
    refine (appendNumber_any w1.heap.size _ a5 (p * 8192 + v) _ (by omega) (by omega) b5 z5 (by omega)).mono ?_
    rintro e w6 hgw
    obtain ⟨v6, a6, rfl, H6, n6, b6, B6, z6⟩ := grew_app (N := 16) hgw z5 (by rw [w16_size]; omega)
    clear hgw c0 c1 c2 c3 c4 c5 c6 hj
    have x6 := x5.below B6 (by omega)
    have y6 := x6
    obtain ⟨c0, c1, c2, c3, c4, c5, c6⟩ := y6
    go_wp2_with fail
    refine (appendNumber_any w1.heap.size _ a6 ty _ (by omega) (by omega) b6 z6 (by omega)).mono ?_
    rintro e w7 hgw
    obtain ⟨v7, a7, rfl, H7, n7, b7, B7, z7⟩ := grew_app (N := 18) hgw z6 (by rw [w16_size]; omega)
    clear hgw c0 c1 c2 c3 c4 c5 c6
    have x7 := x6.below B7 (by omega)
    have y7 := x7
    obtain ⟨c0, c1, c2, c3, c4, c5, c6⟩ := y7
    go_wp2_with (at_builtin; refine Lib.wpList_append_own_string _ rfl _ _ 46 9 rfl w1.heap.size 5 i0 Try.underlying46 Try.underlying9 hi hz0 hz1 hz2 _ _ _ rfl b7 pl rfl ?g1 ?g2 ?g3 ?_)
    case g1 => unfold maxLen; omega
    case g2 => omega
    case g3 => exact z7
    intro v8 w8 ho hg8 _
    obtain ⟨a8, H8, n8, b8, B8, z8⟩ := buf_app (N := 1518) b7 ho rfl hg8 z7 (by omega)
    clear ho hg8 c0 c1 c2 c3 c4 c5 c6
    have k8 := buf_string b8
    go_wp2
    go_ret2
    refine ⟨?_, (((((((B1.trans (B2.mono (by omega))).trans (B3.mono (by omega))).trans (B4.mono (by omega))).trans (B5.mono (by omega))).trans (B6.mono (by omega))).trans (B7.mono (by omega))).trans (B8.mono (by omega)))⟩
    rw [H8.out, H7.out, H6.out, H5.out, H4.out, H3.out, bytes_tagged d s p v ty pl]
    rfl

/-- Print, of whatever frame. -/
def printV (f : Fr) : ByteArray := if rightB f then bytesOf f else ⟨#[]⟩
def printE (f : Fr) : Int := if rightB f then 0 else 2
theorem print_any (d s : ByteArray) (t : Bool) (p v ty : Int) (pl : ByteArray) (w : World) (hd : d.size ≤ maxLen) (hs : s.size ≤ maxLen) (hp : pl.size ≤ maxLen) :
    Calls Try.prog 8 #[fv d s t p v ty pl] w fun e w' => e = .returned (.tuple #[.string (printV ⟨d, s, t, p, v, ty, pl⟩), .int .i64 (printE ⟨d, s, t, p, v, ty, pl⟩)]) ∧ Below w.heap.size w w' := by
  unfold printV printE
  cases h : rightB ⟨d, s, t, p, v, ty, pl⟩
  · exact print_no d s t p v ty pl w hd hs hp h
  · exact print_yes d s t p v ty pl w h
end Go.Proofs.Ytbpgaeeihfknfaa
