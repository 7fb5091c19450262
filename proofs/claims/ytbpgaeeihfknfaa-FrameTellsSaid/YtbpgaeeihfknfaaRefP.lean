/-
  Walks of layer 1's document: Print, as the document's own answer has it.
-/
import Derived.Test.YtbpgaeeihfknfaaRefA
namespace Go.Proofs.Ytbpgaeeihfknfaa
set_option linter.unusedVariables false
set_option linter.unusedSimpArgs false
open Go.RowKit Fm

set_option maxHeartbeats 400000 in
theorem rprint_no (d s : ByteArray) (t : Bool) (p v ty : Int) (pl : ByteArray) (w : World) (hd : d.size ≤ maxLen) (hs : s.size ≤ maxLen) (hp : pl.size ≤ maxLen) (hr : rightB ⟨d, s, t, p, v, ty, pl⟩ = false) :
    Calls Try.prog 9 #[fv d s t p v ty pl] w fun e w' => e = .returned (.tuple #[.string ⟨#[]⟩, .int .i64 2]) ∧ Below w.heap.size w w' := by
  go_enter Try.func9, Try.ntmps9
  go_wp2_with (go_at_call 13; refine (rright_any _ _ _ _ _ _ _ _ hd hs hp).mono ?_; rintro e w' ⟨rfl, hb1⟩)
  go_ret2
  exact ⟨rfl, bw_trans (below_box _ _) hb1⟩

/-- A row of bytes that was just laid, turned into a string. -/
theorem conv2 (n : Int) (w : World) (h0 : 0 ≤ n) (h1 : n ≤ 65535) :
    Sem.run Try.prog (convert 46 9 (.slice (some ⟨w.heap.size, 0, none⟩) 2 2)) (w.alloc (.cells #[.int .u8 (n / 256), .int .u8 (n % 256)] 5)) = .ok (.string (w16 n)) (w.alloc (.cells #[.int .u8 (n / 256), .int .u8 (n % 256)] 5)) := by
  have e : n / 256 = n / 256 % 256 := by omega
  have hc := w16_cells n
  rw [← e] at hc
  have ho := World.ownsRow_lit (base := 0) (e := 5) (size := 1) w #[.int .u8 (n / 256), .int .u8 (n % 256)] 2 (Nat.zero_le _) (by decide) rfl
  have hb : Buf (w.alloc (.cells #[.int .u8 (n / 256), .int .u8 (n % 256)] 5)) 0 (.slice (some ⟨w.heap.size, 0, none⟩) 2 2) (w16 n) := by
    unfold Buf
    rw [← hc]
    exact ho
  exact buf_string hb
theorem conv4 (n : Int) (w : World) (h0 : 0 ≤ n) (h1 : n ≤ 65535) :
    Sem.run Try.prog (convert 46 9 (.slice (some ⟨w.heap.size, 0, none⟩) 4 4)) (w.alloc (.cells #[.int .u8 129, .int .u8 0, .int .u8 (n / 256), .int .u8 (n % 256)] 5)) = .ok (.string (⟨#[129, 0]⟩ ++ w16 n)) (w.alloc (.cells #[.int .u8 129, .int .u8 0, .int .u8 (n / 256), .int .u8 (n % 256)] 5)) := by
  have e : n / 256 = n / 256 % 256 := by omega
  have hc := w16_cells n
  rw [← e] at hc
  have ho := World.ownsRow_lit (base := 0) (e := 5) (size := 1) w #[.int .u8 129, .int .u8 0, .int .u8 (n / 256), .int .u8 (n % 256)] 4 (Nat.zero_le _) (by decide) rfl
  have hb : Buf (w.alloc (.cells #[.int .u8 129, .int .u8 0, .int .u8 (n / 256), .int .u8 (n % 256)] 5)) 0 (.slice (some ⟨w.heap.size, 0, none⟩) 4 4) (⟨#[129, 0]⟩ ++ w16 n) := by
    unfold Buf
    rw [strCells_append, ← hc]
    exact ho
  exact buf_string hb

set_option maxHeartbeats 1000000 in
theorem rprint_yes (d s : ByteArray) (t : Bool) (p v ty : Int) (pl : ByteArray) (w : World) (hr : rightB ⟨d, s, t, p, v, ty, pl⟩ = true) :
    Calls Try.prog 9 #[fv d s t p v ty pl] w fun e w' => e = .returned (.tuple #[.string (bytesOf ⟨d, s, t, p, v, ty, pl⟩), .int .i64 0]) ∧ Below w.heap.size w w' := by
  obtain ⟨hd, hs, hg, ht, hp0, hp1, hp2⟩ := right_parts hr
  have Hd := Lib.hid hd; clear hd
  have Hs := Lib.hid hs; clear hs
  have hd : d.size ≤ 6 := by rw [Hd.out]; decide
  have hs : s.size ≤ 6 := by rw [Hs.out]; decide
  go_enter Try.func9, Try.ntmps9
  go_wp2_with fail
  refine (rright_any _ _ _ _ _ _ _ _ (by rw [Hd.out]; decide) (by rw [Hs.out]; decide) (by unfold maxLen; omega)).mono ?_
  rintro e w1 ⟨rfl, hb1⟩
  rw [hr]
  have B1 := bw_trans (below_box _ _) hb1
  have x1 := (boxed_new w d s t p v ty pl _).below hb1 (by simp)
  have hsz1 : w.heap.size < w1.heap.size := by have := hb1.size; simp at this; omega
  clear hb1
  have y1 := x1
  obtain ⟨c0, c1, c2, c3, c4, c5, c6⟩ := y1
  have w2 : (w16 ty).size ≤ 2 := Nat.le_refl 2
  cases t with
  | false =>
    have k2 := conv2 ty w1 hp0 hp1
    have HF := Lib.hid (show (d ++ s) ++ w16 ty ++ pl = bytesOf ⟨d, s, false, p, v, ty, pl⟩ by rw [← bytes_plain d s p v ty pl, nil_app])
    go_wp2
    go_ret2
    refine ⟨?_, bw_alloc B1 _⟩
    rw [← HF.out]
    rfl
  | true =>
    have hn : 0 ≤ p * 8192 + v ∧ p * 8192 + v ≤ 65535 := by omega
    obtain ⟨T, hT⟩ : ∃ T : ByteArray, T = ⟨#[129, 0]⟩ ++ w16 (p * 8192 + v) := ⟨_, rfl⟩
    have k4 := conv4 (p * 8192 + v) w1 hn.1 hn.2
    rw [← hT] at k4
    have hTs : T.size ≤ 4 := by rw [hT, ByteArray.size_append]; exact Nat.le_refl 4
    have HF := Lib.hid (show (d ++ s) ++ T ++ w16 ty ++ pl = bytesOf ⟨d, s, true, p, v, ty, pl⟩ by
      rw [hT]
      simp only [bytesOf, tagBytes, if_true])
    clear hT
    have k2 := conv2 ty (w1.alloc (.cells #[.int .u8 129, .int .u8 0, .int .u8 ((p * 8192 + v) / 256), .int .u8 ((p * 8192 + v) % 256)] 5)) hp0 hp1
    have ez : (w1.alloc (.cells #[.int .u8 129, .int .u8 0, .int .u8 ((p * 8192 + v) / 256), .int .u8 ((p * 8192 + v) % 256)] 5)).heap.size = w1.heap.size + 1 := by simp
    rw [ez] at k2
    clear ez
    go_wp2
    go_ret2
    refine ⟨?_, bw_alloc (bw_alloc B1 _) _⟩
    rw [← HF.out]
    rfl

theorem rprint_any (d s : ByteArray) (t : Bool) (p v ty : Int) (pl : ByteArray) (w : World) (hd : d.size ≤ maxLen) (hs : s.size ≤ maxLen) (hp : pl.size ≤ maxLen) :
    Calls Try.prog 9 #[fv d s t p v ty pl] w fun e w' => e = .returned (.tuple #[.string (printV ⟨d, s, t, p, v, ty, pl⟩), .int .i64 (printE ⟨d, s, t, p, v, ty, pl⟩)]) ∧ Below w.heap.size w w' := by
  unfold printV printE
  cases h : rightB ⟨d, s, t, p, v, ty, pl⟩
  · exact rprint_no d s t p v ty pl w hd hs hp h
  · exact rprint_yes d s t p v ty pl w h
end Go.Proofs.Ytbpgaeeihfknfaa
