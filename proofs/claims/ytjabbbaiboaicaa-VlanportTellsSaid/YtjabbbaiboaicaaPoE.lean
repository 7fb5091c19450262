/-
  Walks of layer 6: appendVlan, Print; the document's two, Print.
-/
import Derived.Test.YtjabbbaiboaicaaPoD
namespace Go.Proofs.Ytjabbbaiboaicaa
set_option linter.unusedVariables false
set_option linter.unusedSimpArgs false
open Go.RowKit Fm Pm

def Grew (base : Nat) (w : World) (s : ByteArray) (e : Ending) (w' : World) : Prop := ∃ v', e = .returned v' ∧ Buf w' base v' s ∧ Below base w w'
theorem infoU8 : (Try.prog.info? 5).map (fun i => (i.zero, i.size, i.bytes)) = some (some (.int .u8 0), 1, 1) := by kernel_rfl
theorem buf_step {w w' : World} {base : Nat} {v v' : Value} {s t : ByteArray} {xs : List Value} (hx : xs = Lib.strCells t) (h : Buf w base v s) (h1 : w'.ownsRow base 5 1 v' (s.size + xs.length) (Lib.strCells s ++ xs)) (hg : w.grownBy w' v.ownBlock) (hb : base ≤ w.heap.size) :
    Buf w' base v' (s ++ t) ∧ Below base w w' := by
  subst hx
  refine ⟨?_, (Below.refl _ _).grown hg hb fun k hk => (h.lt k hk).1⟩
  unfold Buf
  rw [strCells_append, ByteArray.size_append]
  rw [Lib.strCells_length] at h1
  exact h1
theorem buf_lit (w : World) (c : UInt8) : Buf (w.alloc (.cells #[.int .u8 c.toNat] 5)) w.heap.size (.slice (some ⟨w.heap.size, 0, none⟩) 1 1) ⟨#[c]⟩ :=
  World.ownsRow_lit (base := w.heap.size) (e := 5) (size := 1) w #[.int .u8 c.toNat] 1 (Nat.le_refl _) (by decide) rfl
theorem grew_app {w w' : World} {base N : Nat} {s t : ByteArray} {e : Ending} (h : Grew base w (s ++ t) e w') (hb : base ≤ w.heap.size) (hN : s.size + t.size ≤ N) :
    ∃ v' a, e = .returned v' ∧ Hid (a = s ++ t) ∧ a.size ≤ N ∧ Buf w' base v' a ∧ Below base w w' ∧ base ≤ w'.heap.size := by
  obtain ⟨v', he, h1, h2⟩ := h
  exact ⟨v', s ++ t, he, rfl, by rw [ByteArray.size_append]; exact hN, h1, h2, Nat.le_trans hb h2.size⟩

set_option maxHeartbeats 400000 in
theorem appendVlan_any (base : Nat) (v : Value) (s : ByteArray) (n : Int) (w : World) (h0 : -1000000 ≤ n) (h1 : n ≤ 1000000) (hown : Buf w base v s) (hb : base ≤ w.heap.size) (hs : s.size ≤ 1000000) :
    Calls Try.prog 21 #[v, .int .i64 n] w (Grew base w (s ++ w16 n)) := by
  obtain ⟨i0, hi, hz0, hz1, hz2⟩ := info_parts infoU8
  go_enter Try.func21, Try.ntmps21
  go_wp2_with (at_builtin; refine wpList_append_own _ rfl _ _ 54 rfl base 5 i0 (.int .u8 0) 1 1 Try.underlying54 hi hz0 hz1 hz2 rfl (by decide) _ _ _ rfl (hown.alloc _) ⟨w.heap.size, 0, none⟩ 2 2 [.int .u8 (n / 256 % 256), .int .u8 (n % 256)] rfl rfl ?c1 ?c2 ?c3 ?c4 ?c5 ?_)
  case c1 =>
    intro j u hj
    match j, hj with
    | 0, hj => simp at hj; subst hj; simp [Addr.add]
    | 1, hj => simp at hj; subst hj; simp [Addr.add]
  case c2 => intro u hu; simp at hu; rcases hu with rfl | rfl <;> rfl
  case c3 => unfold maxLen; omega
  case c4 => omega
  case c5 => simp; omega
  intro v' w1 hown' hgrow _
  have R := buf_step (w16_cells n) (hown.alloc _) hown' hgrow (by simp; omega)
  have R2 := (((Below.refl base w).alloc hb _).trans R.2)
  have RR : Hid (Buf w1 base v' (s ++ w16 n) ∧ Below base w w1) := ⟨R.1, R2⟩
  clear R R2 hown' hgrow hown
  go_wp2
  go_ret
  exact ⟨v', rfl, RR.out.1, RR.out.2⟩

set_option maxHeartbeats 400000 in
theorem print_no (t : Bool) (n : Int) (a : Option Addr) (len cap : Nat) (l : List Int) (w : World) (h : IsRow w a len l) (hp : portB ⟨t, n, l⟩ = false) :
    Calls Try.prog 7 #[pv t n a len cap] w fun e w' => e = .returned (.tuple #[.string ⟨#[]⟩, .int .i64 2]) ∧ Below w.heap.size w w' := by
  have PB := pblk_new 24 w t n a len cap
  have BB := below_box w (.cells #[.bool t, .int .i64 n, .slice a len cap] 24)
  have hI := h.next BB
  obtain ⟨k0, k1, k2⟩ := PB.cells
  have HP := Lib.hid hp; clear hp
  go_enter Try.func7, Try.ntmps7
  go_wp2_with (go_at_call 15; refine (portRight_any _ _ _ _ _ l _ hI).mono ?_; rintro e w' ⟨rfl, hb1⟩; rw [HP.out])
  go_ret2
  exact ⟨rfl, bw_trans BB hb1⟩

/-- Behind j rounds. -/
def PInv (base : Nat) (h : ByteArray) (l : List Int) (len : Nat) (w : World) (v i : Value) (wr : World) : Prop :=
  ∃ (j : Nat) (s : ByteArray), j ≤ len ∧ i = .int .i64 (j : Nat) ∧ s = h ++ rowB (l.take j) ∧ s.size = h.size + 2 * j ∧ Buf wr base v s ∧ Below base w wr ∧ base ≤ wr.heap.size

set_option maxHeartbeats 1000000 in
theorem print_yes (t : Bool) (n : Int) (a : Option Addr) (len cap : Nat) (l : List Int) (w : World) (h : IsRow w a len l) (hp : portB ⟨t, n, l⟩ = true) :
    Calls Try.prog 7 #[pv t n a len cap] w fun e w' => e = .returned (.tuple #[.string (textB ⟨t, n, l⟩), .int .i64 0]) ∧ Below w.heap.size w w' := by
  obtain ⟨i0, hi, hz0, hz1, hz2⟩ := info_parts infoU8
  obtain ⟨hn0, hn1, hl, ht, hm⟩ := port_parts hp
  have hlen := h.length
  rw [hlen] at hl
  have PB := pblk_new 24 w t n a len cap
  have BB := below_box w (.cells #[.bool t, .int .i64 n, .slice a len cap] 24)
  have hI := h.next BB
  obtain ⟨k0, k1, k2⟩ := PB.cells
  have HP := Lib.hid hp; clear hp
  go_enter Try.func7, Try.ntmps7
  go_wp2_with fail
  have hpw := portRight_any t n a len cap l _ hI
  refine hpw.mono ?_
  clear hpw
  rintro e w1 ⟨rfl, hb1⟩
  rw [HP.out]
  replace hI := hI.next hb1
  replace PB := PB.next hb1
  replace BB := bw_trans BB hb1
  obtain ⟨b, hb⟩ : ∃ b, b = w.heap.size := ⟨_, rfl⟩
  rw [← hb] at PB ⊢
  clear hb hb1 k0 k1 k2
  obtain ⟨k0, k1, k2⟩ := PB.cells
  cases t with
  | false =>
    have kk := (PB.next (below_box w1 (.cells #[.int .u8 65] 5))).cells
    obtain ⟨j0, j1, j2⟩ := kk
    go_wp2_with fail
    refine (appendVlan_any w1.heap.size _ ⟨#[65]⟩ n _ (by omega) (by omega) (buf_lit w1 65) (by simp) (by decide)).mono ?_
    rintro e w2 hg
    obtain ⟨v2, a2, rfl, H2, n2, b2, B2, z2⟩ := grew_app (N := 3) hg (by simp) (by rw [w16_size]; decide)
    have kc := buf_string b2
    clear hg k0 k1 k2 j0 j1 j2
    go_wp2
    go_ret2
    refine ⟨?_, BB.trans (((below_box w1 _).trans B2).mono BB.size)⟩
    rw [H2.out]; rfl
  | true =>
    have kk := (PB.next (below_box w1 (.cells #[.int .u8 84] 5))).cells
    obtain ⟨j0, j1, j2⟩ := kk
    go_wp2_with fail
    refine (appendVlan_any w1.heap.size _ ⟨#[84]⟩ n _ (by omega) (by omega) (buf_lit w1 84) (by simp) (by decide)).mono ?_
    rintro e w2 hg
    obtain ⟨v2, a2, rfl, H2, n2, b2, B2, z2⟩ := grew_app (N := 3) hg (by simp) (by rw [w16_size]; decide)
    have B2' := (below_box w1 (.cells #[.int .u8 ((84 : UInt8).toNat : Int)] 5)).trans B2
    clear hg k0 k1 k2 j0 j1 j2 B2
    have PB2 := PB.below B2' PB.lt
    obtain ⟨k0, k1, k2⟩ := PB2.cells
    have hlc : Hid ([Value.int .u8 ((len : Nat) : Int)] = Lib.strCells ⟨#[UInt8.ofNat len]⟩) := by
      refine Lib.hid ?_
      rw [byte_int (len : Int) (by omega) (by omega), Int.toNat_natCast]; rfl
    go_wp2_with (at_builtin; refine wpList_append_own _ rfl _ _ 54 rfl w1.heap.size 5 i0 (.int .u8 0) 1 1 Try.underlying54 hi hz0 hz1 hz2 rfl (by decide) _ _ _ rfl (b2.alloc _) ⟨w2.heap.size, 0, none⟩ 1 1 [.int .u8 ((len : Nat) : Int)] rfl rfl ?c1 ?c2 ?c3 ?c4 ?c5 ?_)
    case c1 =>
      intro j u hj
      match j, hj with
      | 0, hj => simp at hj; subst hj; simp [Addr.add]
    case c2 => intro u hu; simp at hu; subst hu; rfl
    case c3 => unfold maxLen; omega
    case c4 => omega
    case c5 => simp; omega
    intro v3 w3 hown' hgrow _
    have R := buf_step hlc.out (b2.alloc _) hown' hgrow (by simp; omega)
    obtain ⟨b3, R2⟩ := R
    have B3 := B2'.trans (((Below.refl w1.heap.size w2).alloc z2 _).trans R2)
    have z3 : w1.heap.size ≤ w3.heap.size := B3.size
    have PB3 := PB.below B3 PB.lt
    clear k0 k1 k2 hown' hgrow R2 PB2 hlc
    obtain ⟨k0, k1, k2⟩ := PB3.cells
    obtain ⟨H, hH⟩ : ∃ H : ByteArray, H = a2 ++ ⟨#[UInt8.ofNat len]⟩ := ⟨_, rfl⟩
    have hHs : H.size ≤ 4 := by rw [hH, ByteArray.size_append]; show a2.size + 1 ≤ 4; omega
    have hHe : H = headT n len := by rw [hH, H2.out]; rfl
    rw [← hH] at b3
    have HH := Lib.hid hHe
    have HB := Lib.hid b3
    clear hH hHe b2 b3 z2 B2'
    go_wp2_with fail
    go_loopw [4, 32] (fun v i wr => PInv w1.heap.size H l len w1 v i wr) (fun _ i _ => len - (intOf i).toNat)
    case atStart => exact ⟨0, H, Nat.zero_le _, rfl, (app_nil _).symm, rfl, HB.out, B3, z3⟩
    case round =>
      clear B3 z3 PB3 k0 k1 k2 HB
      obtain ⟨j, s, hj, rfl, hs, hsz, bs, Bs, zs⟩ := hrel
      have HS := Lib.hid hs; clear hs
      have PBs := PB.below Bs PB.lt
      obtain ⟨k0, k1, k2⟩ := PBs.cells
      by_cases hjl : j < len
      · obtain ⟨m, hmm⟩ := at_some (l := l) (k := j) (by omega)
        obtain ⟨x, off, rfl, hx, hc0⟩ := hI.at_ j m hmm
        have hc := (Bs.cell (p := ⟨x, off + j, none⟩) hx).trans hc0
        obtain ⟨hm0, hm1⟩ := hm m (List.mem_of_getElem? hmm)
        have HM := Lib.hid hmm; clear hmm
        go_wp2_with fail
        refine (appendVlan_any w1.heap.size _ s m _ (by omega) (by omega) bs zs (by omega)).mono ?_
        rintro e w4 hg
        obtain ⟨v4, a4, rfl, H4, n4, b4, B4, z4⟩ := grew_app (N := s.size + 2) hg zs (by rw [w16_size]; omega)
        clear hg k0 k1 k2 hc hc0
        have hsz4 : a4.size = s.size + 2 := by rw [H4.out, ByteArray.size_append]; rfl
        have RN : PInv w1.heap.size H l len w1 v4 (.int .i64 ((j + 1 : Nat) : Int)) w4 := ⟨j + 1, a4, by omega, rfl, by rw [H4.out, HS.out, row_step HM.out, ByteArray.append_assoc], by omega, b4, Bs.trans B4, z4⟩
        have RR := Lib.hid RN
        clear RN b4 B4 z4 bs Bs zs H4 hsz4
        go_wp2
        refine ⟨?_, by simp [intOf]; omega⟩
        exact RR.out
      · obtain rfl : j = len := by omega
        have kc := buf_string bs
        have HB := Lib.hid (BB.trans (Bs.mono BB.size))
        clear bs Bs
        go_wp2
        go_ret2
        refine ⟨?_, HB.out⟩
        rw [HS.out, HH.out, ← hlen, List.take_length]; rfl

theorem print_w (t : Bool) (n : Int) (a : Option Addr) (len cap : Nat) (l : List Int) (w : World) (S : ByteArray) (E : Int) (h : IsRow w a len l) (hX : Hid (printR ⟨t, n, l⟩ = (S, E))) :
    Calls Try.prog 7 #[pv t n a len cap] w fun e w' => e = .returned (.tuple #[.string S, .int .i64 E]) ∧ Below w.heap.size w w' := by
  have e := hX.out
  unfold printR at e
  cases hp : portB ⟨t, n, l⟩ with
  | false =>
    rw [hp] at e
    simp at e
    obtain ⟨rfl, rfl⟩ := e
    exact print_no t n a len cap l w h hp
  | true =>
    rw [hp] at e
    simp at e
    obtain ⟨rfl, rfl⟩ := e
    exact print_yes t n a len cap l w h hp
end Go.Proofs.Ytjabbbaiboaicaa
