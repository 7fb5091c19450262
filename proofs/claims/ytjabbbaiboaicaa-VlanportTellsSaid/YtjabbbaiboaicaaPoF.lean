/-
  Walks of layer 6: the document's two, Print.
-/
import Derived.Test.YtjabbbaiboaicaaPoE
namespace Go.Proofs.Ytjabbbaiboaicaa
set_option linter.unusedVariables false
set_option linter.unusedSimpArgs false
open Go.RowKit Fm Pm

theorem conv2 (n : Int) (w : World) (h0 : 0 ≤ n) (h1 : n ≤ 65535) :
    Sem.run Try.prog (convert 54 9 (.slice (some ⟨w.heap.size, 0, none⟩) 2 2)) (w.alloc (.cells #[.int .u8 (n / 256), .int .u8 (n % 256)] 5)) = .ok (.string (w16 n)) (w.alloc (.cells #[.int .u8 (n / 256), .int .u8 (n % 256)] 5)) := by
  have e : n / 256 = n / 256 % 256 := by omega
  have hc := w16_cells n
  rw [← e] at hc
  have ho := World.ownsRow_lit (base := 0) (e := 5) (size := 1) w #[.int .u8 (n / 256), .int .u8 (n % 256)] 2 (Nat.zero_le _) (by decide) rfl
  have hb : Buf (w.alloc (.cells #[.int .u8 (n / 256), .int .u8 (n % 256)] 5)) 0 (.slice (some ⟨w.heap.size, 0, none⟩) 2 2) (w16 n) := by
    unfold Buf
    rw [← hc]
    exact ho
  exact buf_string hb
/-- One byte in memory, turned into a string. -/
theorem conv1 (c : Nat) (X : ByteArray) (hX : X = ⟨#[UInt8.ofNat c]⟩) (hc : c < 256) (w : World) (b : Nat) (h : w.cell? ⟨b, 0, none⟩ = some (.int .u8 (c : Int))) :
    Sem.run Try.prog (convert 54 9 (.slice (some ⟨b, 0, none⟩) 1 1)) w = .ok (.string X) w := by
  have hb := run_convert_bytes_back (P := Try.prog) w 54 9 5 ⟨b, 0, none⟩ 1 [UInt8.ofNat c] Try.underlying54 Try.underlying5 Try.underlying9 (by
    intro j hj
    have : j = 0 := by simp at hj; exact hj
    subst this
    simp [Addr.add, h]
    omega)
  rw [hX]
  exact hb

set_option maxHeartbeats 400000 in
theorem two_any (n : Int) (w : World) (h0 : 0 ≤ n) (h1 : n ≤ 65535) :
    Calls Try.prog 22 #[.int .i64 n] w fun e w' => e = .returned (.string (w16 n)) ∧ Below w.heap.size w w' := by
  have k2 := conv2 n w h0 h1
  go_enter Try.func22, Try.ntmps22
  go_wp2
  go_ret
  exact ⟨rfl, below_box _ _⟩

theorem two_w (n : Int) (S : ByteArray) (w : World) (hS : Hid (w16 n = S)) (h0 : 0 ≤ n) (h1 : n ≤ 65535) :
    Calls Try.prog 22 #[.int .i64 n] w fun e w' => e = .returned (.string S) ∧ Below w.heap.size w w' := by
  have H := two_any n w h0 h1
  rw [hS.out] at H
  exact H

set_option maxHeartbeats 400000 in
theorem rprint_no (t : Bool) (n : Int) (a : Option Addr) (len cap : Nat) (l : List Int) (w : World) (h : IsRow w a len l) (hp : portB ⟨t, n, l⟩ = false) :
    Calls Try.prog 8 #[pv t n a len cap] w fun e w' => e = .returned (.tuple #[.string ⟨#[]⟩, .int .i64 2]) ∧ Below w.heap.size w w' := by
  have PB := pblk_new 29 w t n a len cap
  have BB := below_box w (.cells #[.bool t, .int .i64 n, .slice a len cap] 29)
  have hI := h.next BB
  obtain ⟨k0, k1, k2⟩ := PB.cells
  have HP := Lib.hid hp; clear hp
  go_enter Try.func8, Try.ntmps8
  go_wp2_with (go_at_call 16; refine (rportRight_any _ _ _ _ _ l _ hI).mono ?_; rintro e w' ⟨rfl, hb1⟩; rw [HP.out])
  go_ret2
  exact ⟨rfl, bw_trans BB hb1⟩

/-- Behind j rounds. -/
def QInv (h : ByteArray) (l : List Int) (len : Nat) (w : World) (v i : Value) (wr : World) : Prop :=
  ∃ (j : Nat) (s : ByteArray), j ≤ len ∧ i = .int .i64 (j : Nat) ∧ v = .string s ∧ s = h ++ rowB (l.take j) ∧ s.size = h.size + 2 * j ∧ Below w.heap.size w wr

set_option maxHeartbeats 1000000 in
theorem rprint_yes (t : Bool) (n : Int) (a : Option Addr) (len cap : Nat) (l : List Int) (w : World) (h : IsRow w a len l) (hp : portB ⟨t, n, l⟩ = true) :
    Calls Try.prog 8 #[pv t n a len cap] w fun e w' => e = .returned (.tuple #[.string (textB ⟨t, n, l⟩), .int .i64 0]) ∧ Below w.heap.size w w' := by
  obtain ⟨hn0, hn1, hl, ht, hm⟩ := port_parts hp
  have hlen := h.length
  rw [hlen] at hl
  have PB := pblk_new 29 w t n a len cap
  have BB := below_box w (.cells #[.bool t, .int .i64 n, .slice a len cap] 29)
  have hI := h.next BB
  obtain ⟨k0, k1, k2⟩ := PB.cells
  have HP := Lib.hid hp; clear hp
  go_enter Try.func8, Try.ntmps8
  go_wp2_with fail
  have hpw := rportRight_any t n a len cap l _ hI
  refine hpw.mono ?_
  clear hpw
  rintro e w1 ⟨rfl, hb1⟩
  rw [HP.out]
  replace hI := hI.next hb1
  replace PB := PB.next hb1
  replace BB := bw_trans BB hb1
  obtain ⟨b, hb⟩ : ∃ b, b = w.heap.size := ⟨_, rfl⟩
  rw [← hb] at PB ⊢
  clear hb hb1 k0 k1 k2
  obtain ⟨k0, k1, k2⟩ := PB.cells
  obtain ⟨S, hS⟩ : ∃ S, w16 n = S := ⟨_, rfl⟩
  have hSs : S.size = 2 := by rw [← hS]; rfl
  have HS := Lib.hid hS; clear hS
  cases t with
  | false =>
    go_wp2_with fail
    refine (two_w n S _ HS (by omega) (by omega)).mono ?_
    rintro e w2 ⟨rfl, hb2⟩
    have HB := Lib.hid (bw_trans BB hb2)
    clear hb2 BB k0 k1 k2
    go_wp2
    go_ret2
    refine ⟨?_, HB.out⟩
    have e := HS.out
    subst e
    rfl
  | true =>
    obtain ⟨X, hX⟩ : ∃ X : ByteArray, X = ⟨#[UInt8.ofNat len]⟩ := ⟨_, rfl⟩
    have hXs : X.size = 1 := by rw [hX]; rfl
    have HCV := Lib.hid (fun (W : World) (c : Nat) => conv1 len X hX (by omega) W c)
    have HX := Lib.hid hX; clear hX
    have Ct : Hid (∀ w' : World, Calls Try.prog 22 #[.int .i64 n] w' fun e w'' => e = .returned (.string S) ∧ Below w'.heap.size w' w'') := Lib.hid (fun w' => two_w n S w' HS (by omega) (by omega))
    have hwr : IntKind.u8.wrap ((len : Nat) : Int) = len := by rw [IntKind.wrap_u8]; omega
    have lb := PB.lt
    go_upto_region 5 with (fail)
    go_cut [4] (fun q wx => q = .string (⟨#[84]⟩ ++ S ++ X) ∧ Below w1.heap.size w1 wx)
    case first =>
      have D1 : Below w1.heap.size w1 (w1.alloc (.cells #[.int .u8 ((len : Nat) : Int)] 5)).drew := ((Below.refl w1.heap.size w1).alloc (Nat.le_refl _) _).drew
      have t1 : (w1.alloc (.cells #[.int .u8 ((len : Nat) : Int)] 5)).drew.cell? ⟨b, 1, none⟩ = some (.int .i64 n) := (D1.cell (p := ⟨b, 1, none⟩) lb).trans k1
      have t2 : (w1.alloc (.cells #[.int .u8 ((len : Nat) : Int)] 5)).drew.cell? ⟨b, 2, none⟩ = some (.slice a len cap) := (D1.cell (p := ⟨b, 2, none⟩) lb).trans k2
      have C1 := HCV.out (w1.alloc (.cells #[.int .u8 ((len : Nat) : Int)] 5)).drew w1.heap.size ((World.cell?_drew _ _).trans (by simp))
      have HD1 := Lib.hid D1; clear D1
      go_region_with (go_at_call 22; (with_reducible refine (Ct.out _).mono ?_); rintro e y0 ⟨rfl, hb0⟩; first
        | (have D0 : Below w1.heap.size w1 y0 := ((Below.refl w1.heap.size w1).drew).trans hb0; have a1 : y0.cell? ⟨b, 1, none⟩ = some (.int .i64 n) := (D0.cell (p := ⟨b, 1, none⟩) lb).trans k1; have a2 : y0.cell? ⟨b, 2, none⟩ = some (.slice a len cap) := (D0.cell (p := ⟨b, 2, none⟩) lb).trans k2; have C2 := HCV.out (y0.alloc (.cells #[.int .u8 ((len : Nat) : Int)] 5)) y0.heap.size (by simp); have D2 : Below w1.heap.size w1 (y0.alloc (.cells #[.int .u8 ((len : Nat) : Int)] 5)) := D0.alloc D0.size _; have b1 : (y0.alloc (.cells #[.int .u8 ((len : Nat) : Int)] 5)).cell? ⟨b, 1, none⟩ = some (.int .i64 n) := (D2.cell (p := ⟨b, 1, none⟩) lb).trans k1; have b2 : (y0.alloc (.cells #[.int .u8 ((len : Nat) : Int)] 5)).cell? ⟨b, 2, none⟩ = some (.slice a len cap) := (D2.cell (p := ⟨b, 2, none⟩) lb).trans k2; have HD2 := Lib.hid D2; clear D2; have HD0 := Lib.hid D0; clear D0 hb0)
        | (have D0 : Below w1.heap.size w1 y0 := HD1.out.trans (hb0.mono (by simp)); have a1 : y0.cell? ⟨b, 1, none⟩ = some (.int .i64 n) := (D0.cell (p := ⟨b, 1, none⟩) lb).trans k1; have a2 : y0.cell? ⟨b, 2, none⟩ = some (.slice a len cap) := (D0.cell (p := ⟨b, 2, none⟩) lb).trans k2; have C2 := HCV.out y0 w1.heap.size ((hb0.cell (p := ⟨w1.heap.size, 0, none⟩) (by simp)).trans (by simp)); have HD0 := Lib.hid D0; clear D0 hb0))
      all_goals go_wp2_with fail
      all_goals go_meet
      all_goals refine ⟨rfl, ?_⟩
      all_goals first | exact HD2.out | exact HD0.out
    case rest =>
    obtain ⟨rfl, B2⟩ := hcut
    obtain ⟨H, hH⟩ : ∃ H : ByteArray, H = ⟨#[84]⟩ ++ S ++ X := ⟨_, rfl⟩
    have hHs : H.size = 4 := by rw [hH, ByteArray.size_append, ByteArray.size_append]; show 1 + S.size + X.size = 4; omega
    have hHe : H = headT n len := by rw [hH, HX.out, ← HS.out]; rfl
    rw [← hH]
    have HH := Lib.hid hHe
    clear hH hHe HCV Ct hwr k0 k1 k2
    obtain ⟨k0, k1, k2⟩ := (PB.below B2 PB.lt).cells
    go_wp2_with fail
    go_loopw [4, 5] (fun v i wr => QInv H l len w1 v i wr) (fun _ i _ => len - (intOf i).toNat)
    case atStart => exact ⟨0, H, Nat.zero_le _, rfl, rfl, (app_nil _).symm, rfl, B2⟩
    case round =>
      clear B2 k0 k1 k2
      obtain ⟨j, s, hj, rfl, rfl, hs, hsz, Bs⟩ := hrel
      have HS' := Lib.hid hs; clear hs
      obtain ⟨k0, k1, k2⟩ := (PB.below Bs PB.lt).cells
      by_cases hjl : j < len
      · obtain ⟨m, hmm⟩ := at_some (l := l) (k := j) (by omega)
        obtain ⟨x, off, rfl, hx, hc0⟩ := hI.at_ j m hmm
        have hc := (Bs.cell (p := ⟨x, off + j, none⟩) hx).trans hc0
        obtain ⟨hm0, hm1⟩ := hm m (List.mem_of_getElem? hmm)
        have HM := Lib.hid hmm; clear hmm
        obtain ⟨M, hM⟩ : ∃ M, w16 m = M := ⟨_, rfl⟩
        have hMs : M.size = 2 := by rw [← hM]; rfl
        have HW := Lib.hid hM; clear hM
        go_wp2_with fail
        refine (two_w m M _ HW (by omega) (by omega)).mono ?_
        rintro e w4 ⟨rfl, hb4⟩
        have RN : QInv H l len w1 (.string (s ++ M)) (.int .i64 ((j + 1 : Nat) : Int)) w4 := ⟨j + 1, _, by omega, rfl, rfl, by rw [HS'.out, row_step HM.out, ByteArray.append_assoc, HW.out], by rw [ByteArray.size_append]; omega, bw_trans Bs hb4⟩
        have RR := Lib.hid RN
        clear RN hb4 Bs hc hc0 k0 k1 k2
        go_wp2
        refine ⟨?_, by simp [intOf]; omega⟩
        exact RR.out
      · obtain rfl : j = len := by omega
        have HB := Lib.hid (bw_trans BB Bs)
        clear Bs
        go_wp2
        go_ret2
        refine ⟨?_, HB.out⟩
        rw [HS'.out, HH.out, ← hlen, List.take_length]; rfl

theorem rprint_w (t : Bool) (n : Int) (a : Option Addr) (len cap : Nat) (l : List Int) (w : World) (S : ByteArray) (E : Int) (h : IsRow w a len l) (hX : Hid (printR ⟨t, n, l⟩ = (S, E))) :
    Calls Try.prog 8 #[pv t n a len cap] w fun e w' => e = .returned (.tuple #[.string S, .int .i64 E]) ∧ Below w.heap.size w w' := by
  have e := hX.out
  unfold printR at e
  cases hp : portB ⟨t, n, l⟩ with
  | false =>
    rw [hp] at e
    simp at e
    obtain ⟨rfl, rfl⟩ := e
    exact rprint_no t n a len cap l w h hp
  | true =>
    rw [hp] at e
    simp at e
    obtain ⟨rfl, rfl⟩ := e
    exact rprint_yes t n a len cap l w h hp
end Go.Proofs.Ytjabbbaiboaicaa
