/-
  FdbPlays: the walk.
-/
import Derived.Test.YtkpfdaomhkcokaaFdY
namespace Go.Proofs.Ytkpfdaomhkcokaa
set_option linter.unusedVariables false
set_option linter.unusedSimpArgs false
open Go.RowKit Go.Maps Dm

/-- An act to a table and to the document's same one. -/
theorem does_p (tb mb R : Nat) (X X' : Tb) (L N0 : Nat) (M LR : Nat) (aT : Option Addr) (cT : Nat) (k v : Int) (m : ByteArray) (p n q : Int) (w : World) (h : IsTab w tb mb R X) (hr : Row w aT X.l) (hc : L ≤ cT) (hL : X.l.length = L) (hN : X.learned = N0) (hM : X'.l.length = M) (hLR : X'.learned = LR)
    (hX : (Dm.stepT R X ⟨k, v, m, p, n, q⟩).1 = X') (hn1 : N0 ≤ 1000000) (hm : m.size ≤ 20) (hv : inI64 v) (hnn : inI64 n) :
    Calls Try.prog 9 #[.pointer (some ⟨tb, 0, none⟩), .agg #[.int .i64 (R : Nat), .slice aT L cT, .int .i64 (N0 : Nat)], .agg #[.int .i64 k, .int .i64 v, .string m, .int .i64 p, .int .i64 n, .int .i64 q]] w fun e w' =>
      ∃ a' c', e = .returned (.tuple #[.agg #[.int .i64 (R : Nat), .slice a' M c', .int .i64 (LR : Nat)], .bool true]) ∧ Row w' a' X'.l ∧ M ≤ c' ∧ IsTab w' tb mb R X' ∧ Kept2 tb mb w w' := by
  subst hL hX
  have hd := does_w tb mb R X X aT cT ⟨k, v, m, p, n, q⟩ w h hr hc h.ok h.n0 (by omega) (by omega) hm hv hnn
  unfold rv av at hd
  rw [hN] at hd
  refine hd.mono ?_
  rintro e w' ⟨a', c', rfl, h1, h2, h3, h4⟩
  rw [hM] at h2
  refine ⟨a', c', ?_, h1, h2, h3, h4⟩
  rw [beq_self_eq_true, hM, hLR]
theorem rfind_x (R : Nat) (aT : Option Addr) (cT : Nat) (lr : Int) (l : List En) (L : Nat) (v : Int) (m : ByteArray) (P : Int) (E : Bool) (w : World) (hr : Row w aT l) (hs : Sorted l) (hL : l.length = L) (hf : findR l ⟨v, m⟩ = (P, E)) :
    Calls Try.prog 13 #[.agg #[.int .i64 (R : Nat), .slice aT L cT, .int .i64 lr], .int .i64 v, .string m] w fun e w' => e = .returned (.tuple #[.int .i64 P, .bool E]) ∧ Grown w w' := by
  subst hL
  have := rfind_w R aT cT lr l v m w hr hs
  rwa [hf] at this
theorem learned_n (tb mb room : Nat) (t : Tb) (N : Nat) (w : World) (h : IsTab w tb mb room t) (hN : t.learned = N) (h1 : N ≤ 1000000) :
    Calls Try.prog 11 #[.pointer (some ⟨tb, 0, none⟩)] w fun e w' => e = .returned (.int .i64 (N : Nat)) ∧ w = w' := by
  have := learned_w tb mb room t w h (by omega)
  rwa [hN] at this

theorem learned_q (tb mb room : Nat) (t : Tb) (N : Nat) (w : World) (n : Nat) (h : IsTab w tb mb room t) (hN : t.learned = N) (h1 : N ≤ 1000000) :
    Calls Try.prog 11 #[.pointer (some ⟨tb, 0, none⟩)] (w.drewN n) fun e w' => e = .returned (.int .i64 (N : Nat)) ∧ w' = w.drewN n :=
  (learned_n tb mb room t N (w.drewN n) (h.same rfl rfl) hN h1).mono fun e w' h => ⟨h.1, h.2.symm⟩

/-- Behind some acts: the table, and the document's in block bm. -/
structure PTab (tb mb R bm j : Nat) (X : Tb) (aT : Option Addr) (L cT N0 : Nat) (wr : World) : Prop where
  x : IsTab wr tb mb R X
  r : RBlk wr bm R aT L cT N0
  row : Row wr aT X.l
  cap : L ≤ cT
  len : X.l.length = L
  lr : X.learned = N0
  n : N0 ≤ j
def MadeT (tb mb R : Nat) (X' : Tb) (M LR : Nat) (wr : World) (u13 u14 : Value) (wx : World) : Prop :=
  ∃ bn c' : Nat, ∃ aT : Option Addr, u13 = .pointer (some ⟨bn, 0, none⟩) ∧ u14 = .bool true ∧ RBlk wx bn R aT M c' LR ∧ Row wx aT X'.l ∧ M ≤ c' ∧ IsTab wx tb mb R X' ∧ Kept2 tb mb wr wx
theorem madeT_A {tb mb R M LR : Nat} {X' : Tb} {wr y : World} {aT : Option Addr} {c' : Nat} (hr : Row y aT X'.l) (hc : M ≤ c') (ht : IsTab y tb mb R X') (hk : Kept2 tb mb wr y) :
    MadeT tb mb R X' M LR wr (.pointer (some ⟨y.heap.size, 0, none⟩)) (.bool true) (y.alloc (.cells #[.int .i64 (R : Nat), .slice aT M c', .int .i64 (LR : Nat)] 31)) :=
  ⟨y.heap.size, c', aT, rfl, rfl, rblk_new y R aT M c' LR, hr.next (below_box _ _), hc, ht.next (below_box _ _), hk.trans (kept2_below (below_box _ _))⟩
theorem madeT_B {tb mb R M LR bn : Nat} {X' : Tb} {wr y : World} {aT : Option Addr} {c' : Nat} (hz : RBlk y bn 0 none 0 0 0) (hbn : wr.heap.size ≤ bn) (hlt : tb < wr.heap.size ∧ mb < wr.heap.size) (hr : Row y aT X'.l) (hc : M ≤ c') (ht : IsTab y tb mb R X') (hk : Kept2 tb mb wr y) :
    MadeT tb mb R X' M LR wr (.pointer (some ⟨bn, 0, none⟩)) (.bool true) (((y.setCell ⟨bn, 0, none⟩ (.int .i64 (R : Nat))).setCell ⟨bn, 1, none⟩ (.slice aT M c')).setCell ⟨bn, 2, none⟩ (.int .i64 (LR : Nat))) :=
  ⟨bn, c', aT, rfl, rfl, rblk_set3 hz R aT M c' LR, row_set3 hr hz _ _ _, hc, ((ht.other (c := bn) (by omega) (by omega) 0 _).other (by omega) (by omega) 1 _).other (by omega) (by omega) 2 _, kept2_other (kept2_other (kept2_other hk bn 0 _ hbn) bn 1 _ hbn) bn 2 _ hbn⟩
/-- What the drawn region of a round reads. -/
def HELD (bm g o R : Nat) (aT : Option Addr) (L cT N0 : Nat) (x : Ac) (w : World) : Prop :=
  (w.cell? ⟨bm, 0, none⟩ = some (.int .i64 (R : Nat)) ∧ w.cell? ⟨bm, 1, none⟩ = some (.slice aT L cT) ∧ w.cell? ⟨bm, 2, none⟩ = some (.int .i64 (N0 : Nat))) ∧ At6 w g o x
theorem HELD_of {w w' : World} {tb mb bm g o R L cT N0 : Nat} {aT : Option Addr} {x : Ac} (h : RBlk w bm R aT L cT N0) (hq : At6 w g o x) (hg : g < w.heap.size) (h1 : g ≠ tb) (h2 : g ≠ mb) (h3 : bm ≠ tb) (h4 : bm ≠ mb) (hk : Kept2 tb mb w w') : HELD bm g o R aT L cT N0 x w' := by
  refine ⟨(h.kept2 hk h3 h4).cells, ?_⟩
  have hbe : w'.heap[g]? = w.heap[g]? := hk.block g hg h1 h2
  have hce : ∀ j, w'.cell? ⟨g, j, none⟩ = w.cell? ⟨g, j, none⟩ := fun j => by simp [World.cell?, hbe]
  obtain ⟨k0, k1, k2, k3, k4, k5⟩ := hq
  exact ⟨(hce _).trans k0, (hce _).trans k1, (hce _).trans k2, (hce _).trans k3, (hce _).trans k4, (hce _).trans k5⟩

set_option maxRecDepth 20000 in
set_option maxHeartbeats 16000000 in
theorem plays_any (room : Int) (a : Option Addr) (cap : Nat) (l : List Ac) (vl : Int) (mac : ByteArray) (w : World) (h : ARow w a l) (hvl : inI64 vl) :
    Calls Try.prog 3 #[.int .i64 room, .slice a l.length cap, .int .i64 vl, .string mac] w fun e w' => e = .returned (.bool true) ∧ Below w.heap.size w w' := by
  have hAW := awake_w w
  have hF := fun w1 (hb : Below w.heap.size w w1) => few_w a cap l w1 (h.next hb)
  obtain ⟨n, hn⟩ : ∃ n, l.length = n := ⟨_, rfl⟩
  have HN := Lib.hid hn
  have HA := Lib.hid h
  obtain ⟨F, hFW⟩ : ∃ F, fewB l = F := ⟨_, rfl⟩
  rw [hFW, hn] at hF
  rw [hn]
  have HF := Lib.hid hF
  have HAW := Lib.hid hAW
  have HFW := Lib.hid hFW
  clear hn h hF hAW hFW
  cases F
  · skip
    go_enter Try.func3, Try.ntmps3
    go_wp2_with (first
      | (go_at_call 6; (with_reducible refine HAW.out.mono ?_); rintro e w1 ⟨rfl, hb1⟩; have B1 := Lib.hid hb1; clear hb1)
      | (go_at_call 7; (with_reducible refine (HF.out w1 B1.out).mono ?_); rintro e w2 ⟨rfl, rfl⟩))
    go_ret
    exact ⟨rfl, B1.out⟩
  by_cases h20 : 20 < mac.size
  · have h20' : (20 : Int) < mac.size := by omega
    go_enter Try.func3, Try.ntmps3
    go_wp2_with (first
      | (go_at_call 6; (with_reducible refine HAW.out.mono ?_); rintro e w1 ⟨rfl, hb1⟩; have B1 := Lib.hid hb1; clear hb1)
      | (go_at_call 7; (with_reducible refine (HF.out w1 B1.out).mono ?_); rintro e w2 ⟨rfl, rfl⟩))
    go_ret
    exact ⟨rfl, B1.out⟩
  have h20' : (mac.size : Int) ≤ 20 := by omega
  by_cases r1 : room < 1
  · have hbad : ¬ (1 ≤ room ∧ room ≤ 64) := by omega
    go_enter Try.func3, Try.ntmps3
    go_wp2_with (first
      | (go_at_call 6; (with_reducible refine HAW.out.mono ?_); rintro e w1 ⟨rfl, hb1⟩; have B1 := Lib.hid hb1; clear hb1)
      | (go_at_call 7; (with_reducible refine (HF.out w1 B1.out).mono ?_); rintro e w2 ⟨rfl, rfl⟩)
      | (go_at_call 8; (with_reducible refine (new_bad room w1 hbad).mono ?_); rintro e w3 ⟨rfl, rfl⟩))
    go_ret
    exact ⟨rfl, B1.out⟩
  by_cases r2 : 64 < room
  · have hbad : ¬ (1 ≤ room ∧ room ≤ 64) := by omega
    go_enter Try.func3, Try.ntmps3
    go_wp2_with (first
      | (go_at_call 6; (with_reducible refine HAW.out.mono ?_); rintro e w1 ⟨rfl, hb1⟩; have B1 := Lib.hid hb1; clear hb1)
      | (go_at_call 7; (with_reducible refine (HF.out w1 B1.out).mono ?_); rintro e w2 ⟨rfl, rfl⟩)
      | (go_at_call 8; (with_reducible refine (new_bad room w1 hbad).mono ?_); rintro e w3 ⟨rfl, rfl⟩))
    go_ret
    exact ⟨rfl, B1.out⟩
  have HM : Hid (∀ x ∈ l, x.mac.size ≤ 20) := Lib.hid (few_each HFW.out)
  have hn150 : n ≤ 150 := by have := few_len HFW.out; have := HN.out; omega
  obtain ⟨R, rfl⟩ := Int.eq_ofNat_of_zero_le (show 0 ≤ room by omega)
  have hR1 : 1 ≤ R := by omega
  have hR2 : R ≤ 64 := by omega
  have hR1' : (1 : Int) ≤ R := by omega
  have hR2' : (R : Int) ≤ 64 := by omega
  have HK := Lib.hid (kyok vl mac hvl (by omega))
  clear hvl
  go_enter Try.func3, Try.ntmps3
  go_wp2_with (first
    | (go_at_call 6; (with_reducible refine HAW.out.mono ?_); rintro e w1 ⟨rfl, hb1⟩; have B1 := Lib.hid hb1; clear hb1)
    | (go_at_call 7; (with_reducible refine (HF.out w1 B1.out).mono ?_); rintro e w2 ⟨rfl, rfl⟩)
    | (go_at_call 8; (with_reducible refine (new_w R w1 ⟨hR1, hR2⟩).mono ?_); rintro e w3 ⟨tb, mb, rfl, t3, g1, g2, hb3⟩; have T3 := Lib.hid t3; have G := Lib.hid (And.intro g1 g2); have B3 := Lib.hid (B1.out.trans (hb3.mono B1.out.size)); clear t3 g1 g2 hb3))
  have GG : Hid (w.heap.size ≤ tb ∧ w.heap.size ≤ mb) := Lib.hid ⟨Nat.le_trans B1.out.size G.out.1, Nat.le_trans B1.out.size G.out.2⟩
  obtain ⟨W, hW⟩ : ∃ W, W = w3.alloc (.cells #[.int .i64 (R : Nat), .slice none 0 0, .int .i64 0] 31) := ⟨_, rfl⟩
  obtain ⟨bm, hbm⟩ : ∃ bm, bm = w3.heap.size := ⟨_, rfl⟩
  have kW : RBlk W bm R none 0 0 (0 : Nat) := by rw [hW, hbm]; exact rblk_new _ _ _ _ _ _
  have hWB : Below w3.heap.size w3 W := by rw [hW]; exact below_box _ _
  have hmt : bm ≠ tb := by have := T3.out.blk.lt; omega
  have hmm : bm ≠ mb := by have := T3.out.map.lt; omega
  have hSb : w.heap.size ≤ bm := by have := B3.out.size; omega
  rw [← hW, ← hbm]
  have NE := Lib.hid (And.intro hmt (And.intro hmm hSb))
  have P0 : Hid (PTab tb mb R bm 0 ⟨[], 0⟩ none 0 0 0 W) := Lib.hid ⟨T3.out.next hWB, kW, row_nil _ _, Nat.le_refl _, rfl, rfl, Nat.le_refl _⟩
  have BW := Lib.hid (B3.out.trans (hWB.mono B3.out.size))
  clear hW hbm kW hWB hmt hmm hSb
  go_loopw [12] (fun i wr => ∃ j : Nat, j ≤ n ∧ ∃ X aT, ∃ L cT N0 : Nat, i = .int .i64 (j : Nat) ∧ PTab tb mb R bm j X aT L cT N0 wr ∧ Below w.heap.size w wr) (fun i _ => n - (intOf i).toNat)
  case atStart => exact ⟨0, Nat.zero_le _, ⟨[], 0⟩, none, 0, 0, 0, rfl, P0.out, BW.out⟩
  case round =>
    obtain ⟨j, hj, X, aT, L, cT, N0, rfl, hV, hB⟩ := hrel
    have V := Lib.hid hV
    have B := Lib.hid hB
    clear hV hB
    by_cases hjn : j < n
    · obtain ⟨⟨k, v, m, p, q, r⟩, hx⟩ := at_some (l := l) (k := j) (by rw [HN.out]; exact hjn)
      have hm : m.size ≤ 20 := HM.out _ (List.mem_of_getElem? hx)
      have HR := Lib.hid (HA.out.rng _ (List.mem_of_getElem? hx))
      obtain ⟨g, o, rfl, hgl, hq⟩ := HA.out.at_ j _ hx
      have HQ := Lib.hid (hq.below B.out hgl)
      have hgb : g < wr.heap.size := Nat.lt_of_lt_of_le hgl B.out.size
      have hgt : g ≠ tb := by have := GG.out.1; omega
      have hgm : g ≠ mb := by have := GG.out.2; omega
      clear hx hq
      obtain ⟨X', hX'⟩ : ∃ X', (Dm.stepT R X ⟨k, v, m, p, q, r⟩).1 = X' := ⟨_, rfl⟩
      obtain ⟨M, hM⟩ : ∃ M, X'.l.length = M := ⟨_, rfl⟩
      have hok' : X'.ok R := by rw [← hX']; exact step_ok V.out.x.ok _
      have hstep := step_learned R X ⟨k, v, m, p, q, r⟩
      rw [hX', V.out.lr] at hstep
      obtain ⟨LR, hLR⟩ : ∃ LR : Nat, X'.learned = LR := ⟨X'.learned.toNat, by omega⟩
      have hLRj : LR ≤ j + 1 := by have := V.out.n; omega
      have hM64 : M ≤ 64 := by have := hok'.room; omega
      have hN1 : N0 ≤ 1000000 := by have := V.out.n; omega
      have HD := Lib.hid (fun (w' : World) (hb : Below wr.heap.size wr w') => does_p tb mb R X X' L N0 M LR aT cT k v m p q r w' (V.out.x.next hb) (V.out.row.next hb) V.out.cap V.out.len V.out.lr hM hLR hX' hN1 hm HR.out.1 HR.out.2)
      have HE := Lib.hid (fun (w' : World) (hk : Kept2 tb mb wr w') => HELD_of (g := g) (o := o + j * 6) (bm := bm) V.out.r HQ.out hgb hgt hgm NE.out.1 NE.out.2.1 hk)
      have OK' := Lib.hid hok'
      have HMM := Lib.hid hM
      have HLR := Lib.hid hLR
      have hlt : Hid (tb < wr.heap.size ∧ mb < wr.heap.size) := Lib.hid ⟨V.out.x.blk.lt, V.out.x.map.lt⟩
      clear hX' hM hok' hstep hLR
      have S0 : (((wr).cell? ⟨bm, 0, none⟩ = some (.int .i64 (R : Nat)) ∧ (wr).cell? ⟨bm, 1, none⟩ = some (.slice aT L cT) ∧ (wr).cell? ⟨bm, 2, none⟩ = some (.int .i64 (N0 : Nat))) ∧ ((wr).cell? ⟨g, o + j * 6, none⟩ = some (.int .i64 k) ∧ (wr).cell? ⟨g, o + j * 6 + 1, none⟩ = some (.int .i64 v) ∧ (wr).cell? ⟨g, o + j * 6 + 2, none⟩ = some (.string m) ∧ (wr).cell? ⟨g, o + j * 6 + 3, none⟩ = some (.int .i64 p) ∧ (wr).cell? ⟨g, o + j * 6 + 4, none⟩ = some (.int .i64 q) ∧ (wr).cell? ⟨g, o + j * 6 + 5, none⟩ = some (.int .i64 r))) := HE.out wr (Kept2.refl _ _ _)
      have S1 : (((wr.drew).cell? ⟨bm, 0, none⟩ = some (.int .i64 (R : Nat)) ∧ (wr.drew).cell? ⟨bm, 1, none⟩ = some (.slice aT L cT) ∧ (wr.drew).cell? ⟨bm, 2, none⟩ = some (.int .i64 (N0 : Nat))) ∧ ((wr.drew).cell? ⟨g, o + j * 6, none⟩ = some (.int .i64 k) ∧ (wr.drew).cell? ⟨g, o + j * 6 + 1, none⟩ = some (.int .i64 v) ∧ (wr.drew).cell? ⟨g, o + j * 6 + 2, none⟩ = some (.string m) ∧ (wr.drew).cell? ⟨g, o + j * 6 + 3, none⟩ = some (.int .i64 p) ∧ (wr.drew).cell? ⟨g, o + j * 6 + 4, none⟩ = some (.int .i64 q) ∧ (wr.drew).cell? ⟨g, o + j * 6 + 5, none⟩ = some (.int .i64 r))) := HE.out wr.drew (kept2_below (Below.refl _ _).drew)
      have S2 : ((((wr.alloc (.cells #[.int .i64 0, .slice none 0 0, .int .i64 0] 31))).cell? ⟨bm, 0, none⟩ = some (.int .i64 (R : Nat)) ∧ ((wr.alloc (.cells #[.int .i64 0, .slice none 0 0, .int .i64 0] 31))).cell? ⟨bm, 1, none⟩ = some (.slice aT L cT) ∧ ((wr.alloc (.cells #[.int .i64 0, .slice none 0 0, .int .i64 0] 31))).cell? ⟨bm, 2, none⟩ = some (.int .i64 (N0 : Nat))) ∧ (((wr.alloc (.cells #[.int .i64 0, .slice none 0 0, .int .i64 0] 31))).cell? ⟨g, o + j * 6, none⟩ = some (.int .i64 k) ∧ ((wr.alloc (.cells #[.int .i64 0, .slice none 0 0, .int .i64 0] 31))).cell? ⟨g, o + j * 6 + 1, none⟩ = some (.int .i64 v) ∧ ((wr.alloc (.cells #[.int .i64 0, .slice none 0 0, .int .i64 0] 31))).cell? ⟨g, o + j * 6 + 2, none⟩ = some (.string m) ∧ ((wr.alloc (.cells #[.int .i64 0, .slice none 0 0, .int .i64 0] 31))).cell? ⟨g, o + j * 6 + 3, none⟩ = some (.int .i64 p) ∧ ((wr.alloc (.cells #[.int .i64 0, .slice none 0 0, .int .i64 0] 31))).cell? ⟨g, o + j * 6 + 4, none⟩ = some (.int .i64 q) ∧ ((wr.alloc (.cells #[.int .i64 0, .slice none 0 0, .int .i64 0] 31))).cell? ⟨g, o + j * 6 + 5, none⟩ = some (.int .i64 r))) := HE.out (wr.alloc (.cells #[.int .i64 0, .slice none 0 0, .int .i64 0] 31)) (kept2_below (below_box _ _))
      have S3 : ((((wr.alloc (.cells #[.int .i64 0, .slice none 0 0, .int .i64 0] 31)).drew).cell? ⟨bm, 0, none⟩ = some (.int .i64 (R : Nat)) ∧ ((wr.alloc (.cells #[.int .i64 0, .slice none 0 0, .int .i64 0] 31)).drew).cell? ⟨bm, 1, none⟩ = some (.slice aT L cT) ∧ ((wr.alloc (.cells #[.int .i64 0, .slice none 0 0, .int .i64 0] 31)).drew).cell? ⟨bm, 2, none⟩ = some (.int .i64 (N0 : Nat))) ∧ (((wr.alloc (.cells #[.int .i64 0, .slice none 0 0, .int .i64 0] 31)).drew).cell? ⟨g, o + j * 6, none⟩ = some (.int .i64 k) ∧ ((wr.alloc (.cells #[.int .i64 0, .slice none 0 0, .int .i64 0] 31)).drew).cell? ⟨g, o + j * 6 + 1, none⟩ = some (.int .i64 v) ∧ ((wr.alloc (.cells #[.int .i64 0, .slice none 0 0, .int .i64 0] 31)).drew).cell? ⟨g, o + j * 6 + 2, none⟩ = some (.string m) ∧ ((wr.alloc (.cells #[.int .i64 0, .slice none 0 0, .int .i64 0] 31)).drew).cell? ⟨g, o + j * 6 + 3, none⟩ = some (.int .i64 p) ∧ ((wr.alloc (.cells #[.int .i64 0, .slice none 0 0, .int .i64 0] 31)).drew).cell? ⟨g, o + j * 6 + 4, none⟩ = some (.int .i64 q) ∧ ((wr.alloc (.cells #[.int .i64 0, .slice none 0 0, .int .i64 0] 31)).drew).cell? ⟨g, o + j * 6 + 5, none⟩ = some (.int .i64 r))) := HE.out (wr.alloc (.cells #[.int .i64 0, .slice none 0 0, .int .i64 0] 31)).drew (kept2_below (below_box _ _).drew)
      go_wp2_with fail
      go_cut [13, 14] (fun u13 u14 wx => MadeT tb mb R X' M LR wr u13 u14 wx)
      case first =>
        go_region_held3 (fun w' => (((w').cell? ⟨bm, 0, none⟩ = some (.int .i64 (R : Nat)) ∧ (w').cell? ⟨bm, 1, none⟩ = some (.slice aT L cT) ∧ (w').cell? ⟨bm, 2, none⟩ = some (.int .i64 (N0 : Nat))) ∧ ((w').cell? ⟨g, o + j * 6, none⟩ = some (.int .i64 k) ∧ (w').cell? ⟨g, o + j * 6 + 1, none⟩ = some (.int .i64 v) ∧ (w').cell? ⟨g, o + j * 6 + 2, none⟩ = some (.string m) ∧ (w').cell? ⟨g, o + j * 6 + 3, none⟩ = some (.int .i64 p) ∧ (w').cell? ⟨g, o + j * 6 + 4, none⟩ = some (.int .i64 q) ∧ (w').cell? ⟨g, o + j * 6 + 5, none⟩ = some (.int .i64 r)))) (first | exact S0 | exact S1 | exact S2 | exact S3 | exact T0 | exact T1 | exact T2) (first
          | (go_at_call 9; (with_reducible refine (HD.out _ (Below.refl _ _).drew).mono ?_); rintro e y0 ⟨a', c', rfl, hr, hc, ht, hk⟩; have hk0 : Kept2 tb mb wr y0 := (kept2_below (Below.refl _ wr).drew).trans hk; have T0 : (((y0).cell? ⟨bm, 0, none⟩ = some (.int .i64 (R : Nat)) ∧ (y0).cell? ⟨bm, 1, none⟩ = some (.slice aT L cT) ∧ (y0).cell? ⟨bm, 2, none⟩ = some (.int .i64 (N0 : Nat))) ∧ ((y0).cell? ⟨g, o + j * 6, none⟩ = some (.int .i64 k) ∧ (y0).cell? ⟨g, o + j * 6 + 1, none⟩ = some (.int .i64 v) ∧ (y0).cell? ⟨g, o + j * 6 + 2, none⟩ = some (.string m) ∧ (y0).cell? ⟨g, o + j * 6 + 3, none⟩ = some (.int .i64 p) ∧ (y0).cell? ⟨g, o + j * 6 + 4, none⟩ = some (.int .i64 q) ∧ (y0).cell? ⟨g, o + j * 6 + 5, none⟩ = some (.int .i64 r))) := HE.out y0 hk0; have T1 : ((((y0.alloc (.cells #[.int .i64 (R : Nat), .slice a' M c', .int .i64 (LR : Nat)] 31))).cell? ⟨bm, 0, none⟩ = some (.int .i64 (R : Nat)) ∧ ((y0.alloc (.cells #[.int .i64 (R : Nat), .slice a' M c', .int .i64 (LR : Nat)] 31))).cell? ⟨bm, 1, none⟩ = some (.slice aT L cT) ∧ ((y0.alloc (.cells #[.int .i64 (R : Nat), .slice a' M c', .int .i64 (LR : Nat)] 31))).cell? ⟨bm, 2, none⟩ = some (.int .i64 (N0 : Nat))) ∧ (((y0.alloc (.cells #[.int .i64 (R : Nat), .slice a' M c', .int .i64 (LR : Nat)] 31))).cell? ⟨g, o + j * 6, none⟩ = some (.int .i64 k) ∧ ((y0.alloc (.cells #[.int .i64 (R : Nat), .slice a' M c', .int .i64 (LR : Nat)] 31))).cell? ⟨g, o + j * 6 + 1, none⟩ = some (.int .i64 v) ∧ ((y0.alloc (.cells #[.int .i64 (R : Nat), .slice a' M c', .int .i64 (LR : Nat)] 31))).cell? ⟨g, o + j * 6 + 2, none⟩ = some (.string m) ∧ ((y0.alloc (.cells #[.int .i64 (R : Nat), .slice a' M c', .int .i64 (LR : Nat)] 31))).cell? ⟨g, o + j * 6 + 3, none⟩ = some (.int .i64 p) ∧ ((y0.alloc (.cells #[.int .i64 (R : Nat), .slice a' M c', .int .i64 (LR : Nat)] 31))).cell? ⟨g, o + j * 6 + 4, none⟩ = some (.int .i64 q) ∧ ((y0.alloc (.cells #[.int .i64 (R : Nat), .slice a' M c', .int .i64 (LR : Nat)] 31))).cell? ⟨g, o + j * 6 + 5, none⟩ = some (.int .i64 r))) := HE.out _ (hk0.trans (kept2_below (below_box _ _))); have T2 : ((((y0.alloc (.cells #[.int .i64 0, .slice none 0 0, .int .i64 0] 31))).cell? ⟨bm, 0, none⟩ = some (.int .i64 (R : Nat)) ∧ ((y0.alloc (.cells #[.int .i64 0, .slice none 0 0, .int .i64 0] 31))).cell? ⟨bm, 1, none⟩ = some (.slice aT L cT) ∧ ((y0.alloc (.cells #[.int .i64 0, .slice none 0 0, .int .i64 0] 31))).cell? ⟨bm, 2, none⟩ = some (.int .i64 (N0 : Nat))) ∧ (((y0.alloc (.cells #[.int .i64 0, .slice none 0 0, .int .i64 0] 31))).cell? ⟨g, o + j * 6, none⟩ = some (.int .i64 k) ∧ ((y0.alloc (.cells #[.int .i64 0, .slice none 0 0, .int .i64 0] 31))).cell? ⟨g, o + j * 6 + 1, none⟩ = some (.int .i64 v) ∧ ((y0.alloc (.cells #[.int .i64 0, .slice none 0 0, .int .i64 0] 31))).cell? ⟨g, o + j * 6 + 2, none⟩ = some (.string m) ∧ ((y0.alloc (.cells #[.int .i64 0, .slice none 0 0, .int .i64 0] 31))).cell? ⟨g, o + j * 6 + 3, none⟩ = some (.int .i64 p) ∧ ((y0.alloc (.cells #[.int .i64 0, .slice none 0 0, .int .i64 0] 31))).cell? ⟨g, o + j * 6 + 4, none⟩ = some (.int .i64 q) ∧ ((y0.alloc (.cells #[.int .i64 0, .slice none 0 0, .int .i64 0] 31))).cell? ⟨g, o + j * 6 + 5, none⟩ = some (.int .i64 r))) := HE.out _ (hk0.trans (kept2_below (below_box _ _))))
          | (go_at_call 9; (with_reducible refine (HD.out _ (below_box _ _).drew).mono ?_); rintro e y0 ⟨a', c', rfl, hr, hc, ht, hk⟩; have hkz : Kept2 tb mb (wr.alloc (.cells #[.int .i64 0, .slice none 0 0, .int .i64 0] 31)) y0 := (kept2_below (Below.refl _ _).drew).trans hk; have hk0 : Kept2 tb mb wr y0 := (kept2_below (below_box _ _)).trans hkz; have hz : RBlk y0 wr.heap.size 0 none 0 0 0 := (rblk_new wr 0 none 0 0 0).kept2 hkz (by have := hlt.out.1; omega) (by have := hlt.out.2; omega); obtain ⟨i0, i1, i2⟩ := hz.cells; have j0 := hz.free 0; have j1 := hz.free 1; have j2 := hz.free 2; have T0 : (((y0).cell? ⟨bm, 0, none⟩ = some (.int .i64 (R : Nat)) ∧ (y0).cell? ⟨bm, 1, none⟩ = some (.slice aT L cT) ∧ (y0).cell? ⟨bm, 2, none⟩ = some (.int .i64 (N0 : Nat))) ∧ ((y0).cell? ⟨g, o + j * 6, none⟩ = some (.int .i64 k) ∧ (y0).cell? ⟨g, o + j * 6 + 1, none⟩ = some (.int .i64 v) ∧ (y0).cell? ⟨g, o + j * 6 + 2, none⟩ = some (.string m) ∧ (y0).cell? ⟨g, o + j * 6 + 3, none⟩ = some (.int .i64 p) ∧ (y0).cell? ⟨g, o + j * 6 + 4, none⟩ = some (.int .i64 q) ∧ (y0).cell? ⟨g, o + j * 6 + 5, none⟩ = some (.int .i64 r))) := HE.out y0 hk0; have T1 : ((((((y0.setCell ⟨wr.heap.size, 0, none⟩ (.int .i64 (R : Nat))).setCell ⟨wr.heap.size, 1, none⟩ (.slice a' M c')).setCell ⟨wr.heap.size, 2, none⟩ (.int .i64 (LR : Nat)))).cell? ⟨bm, 0, none⟩ = some (.int .i64 (R : Nat)) ∧ ((((y0.setCell ⟨wr.heap.size, 0, none⟩ (.int .i64 (R : Nat))).setCell ⟨wr.heap.size, 1, none⟩ (.slice a' M c')).setCell ⟨wr.heap.size, 2, none⟩ (.int .i64 (LR : Nat)))).cell? ⟨bm, 1, none⟩ = some (.slice aT L cT) ∧ ((((y0.setCell ⟨wr.heap.size, 0, none⟩ (.int .i64 (R : Nat))).setCell ⟨wr.heap.size, 1, none⟩ (.slice a' M c')).setCell ⟨wr.heap.size, 2, none⟩ (.int .i64 (LR : Nat)))).cell? ⟨bm, 2, none⟩ = some (.int .i64 (N0 : Nat))) ∧ (((((y0.setCell ⟨wr.heap.size, 0, none⟩ (.int .i64 (R : Nat))).setCell ⟨wr.heap.size, 1, none⟩ (.slice a' M c')).setCell ⟨wr.heap.size, 2, none⟩ (.int .i64 (LR : Nat)))).cell? ⟨g, o + j * 6, none⟩ = some (.int .i64 k) ∧ ((((y0.setCell ⟨wr.heap.size, 0, none⟩ (.int .i64 (R : Nat))).setCell ⟨wr.heap.size, 1, none⟩ (.slice a' M c')).setCell ⟨wr.heap.size, 2, none⟩ (.int .i64 (LR : Nat)))).cell? ⟨g, o + j * 6 + 1, none⟩ = some (.int .i64 v) ∧ ((((y0.setCell ⟨wr.heap.size, 0, none⟩ (.int .i64 (R : Nat))).setCell ⟨wr.heap.size, 1, none⟩ (.slice a' M c')).setCell ⟨wr.heap.size, 2, none⟩ (.int .i64 (LR : Nat)))).cell? ⟨g, o + j * 6 + 2, none⟩ = some (.string m) ∧ ((((y0.setCell ⟨wr.heap.size, 0, none⟩ (.int .i64 (R : Nat))).setCell ⟨wr.heap.size, 1, none⟩ (.slice a' M c')).setCell ⟨wr.heap.size, 2, none⟩ (.int .i64 (LR : Nat)))).cell? ⟨g, o + j * 6 + 3, none⟩ = some (.int .i64 p) ∧ ((((y0.setCell ⟨wr.heap.size, 0, none⟩ (.int .i64 (R : Nat))).setCell ⟨wr.heap.size, 1, none⟩ (.slice a' M c')).setCell ⟨wr.heap.size, 2, none⟩ (.int .i64 (LR : Nat)))).cell? ⟨g, o + j * 6 + 4, none⟩ = some (.int .i64 q) ∧ ((((y0.setCell ⟨wr.heap.size, 0, none⟩ (.int .i64 (R : Nat))).setCell ⟨wr.heap.size, 1, none⟩ (.slice a' M c')).setCell ⟨wr.heap.size, 2, none⟩ (.int .i64 (LR : Nat)))).cell? ⟨g, o + j * 6 + 5, none⟩ = some (.int .i64 r))) := HE.out _ (kept2_other (kept2_other (kept2_other hk0 wr.heap.size 0 _ (Nat.le_refl _)) wr.heap.size 1 _ (Nat.le_refl _)) wr.heap.size 2 _ (Nat.le_refl _))))
        all_goals (go_wp2_with fail)
        all_goals go_meet
        all_goals first
          | exact madeT_A hr hc ht hk0
          | exact madeT_B hz (Nat.le_refl _) hlt.out hr hc ht hk0
      case rest =>
        obtain ⟨bn, c', aT', rfl, rfl, kn, rn, hc', tn, hk⟩ := hcut
        have B2 := Lib.hid (hk.under B.out GG.out.1 GG.out.2)
        have km := V.out.r.kept2 hk NE.out.1 NE.out.2.1
        have tm := NE.out.1
        have mm := NE.out.2.1
        obtain ⟨i0, i1, i2⟩ := km.cells
        obtain ⟨n0, n1, n2⟩ := kn.cells
        have f0 := km.free 0
        have f1 := km.free 1
        have f2 := km.free 2
        obtain ⟨Vw, hVw⟩ : ∃ V, V = (((wc.setCell ⟨bm, 0, none⟩ (.int .i64 (R : Nat))).setCell ⟨bm, 1, none⟩ (.slice aT' M c')).setCell ⟨bm, 2, none⟩ (.int .i64 (LR : Nat))) := ⟨_, rfl⟩
        have KV : Hid (RBlk Vw bm R aT' M c' LR) := Lib.hid (by rw [hVw]; exact rblk_set3 km R aT' M c' LR)
        have RV : Hid (Row Vw aT' X'.l) := Lib.hid (by rw [hVw]; exact row_set3 rn km _ _ _)
        have TV : Hid (IsTab Vw tb mb R X') := Lib.hid (by rw [hVw]; exact ((tn.other (c := bm) (by omega) (by omega) 0 _).other (by omega) (by omega) 1 _).other (by omega) (by omega) 2 _)
        have BV : Hid (Below w.heap.size w Vw) := Lib.hid (by rw [hVw]; exact ((B2.out.setCell (p := ⟨bm, 0, none⟩) NE.out.2.2 _).setCell (p := ⟨bm, 1, none⟩) NE.out.2.2 _).setCell (p := ⟨bm, 2, none⟩) NE.out.2.2 _)
        clear km kn rn tn hk S0 S1 S2 S3 tm mm
        go_wp2_with (go_at_call 10; rw [← hVw]; (with_reducible refine (list_n tb mb R X' M Vw TV.out HMM.out).mono ?_); rintro e w5 ⟨a5, cap5, rfl, c5, r5, b5⟩; have R5 := Lib.hid r5; have T5 := Lib.hid (TV.out.next b5); have K5 := Lib.hid (KV.out.next b5); have Q5 := Lib.hid (RV.out.next b5); have B5 := Lib.hid (BV.out.trans (b5.mono BV.out.size)); clear r5 b5; obtain ⟨y0, y1, y2⟩ := K5.out.cells)
        clear hVw i0 i1 i2 n0 n1 n2 f0 f1 f2
        have hLR6 : LR ≤ 1000000 := by omega
        go_quiet (first | (go_at_call 11; refine Calls.quiet_of_same (learned_q tb mb R X' LR w5 _ T5.out HLR.out hLR6)))
        go_wp2
        clear y0 y1 y2
        go_loopw [16] (fun i wr => ∃ e : Nat, e ≤ M ∧ i = .int .i64 (e : Nat) ∧ Grown w5 wr) (fun i _ => M - (intOf i).toNat)
        case atStart => exact ⟨0, Nat.zero_le _, rfl, (Grown.refl _).drewN _⟩
        case round =>
          obtain ⟨e, he, rfl, hGr⟩ := hrel
          have HG := Lib.hid hGr
          clear hGr
          obtain ⟨y0, y1, y2⟩ := (K5.out.next HG.out.below).cells
          by_cases heM : e < M
          · obtain ⟨⟨xv, xm, xp, xh, xf⟩, hx⟩ := at_some (l := X'.l) (k := e) (by rw [HMM.out]; exact heM)
            obtain ⟨g6, o6, rfl, hgl6, q0, q1, q2, q3, q4⟩ := (R5.out.next HG.out.below).at_ e _ hx
            obtain ⟨g7, o7, rfl, hgl7, p0, p1, p2, p3, p4⟩ := (Q5.out.next HG.out.below).at_ e _ hx
            simp only at q0 q1 q2 q3 q4 p0 p1 p2 p3 p4
            have heM' : (e : Int) < (M : Int) := by omega
            clear hx
            go_wp2_with fail
            go_quiet (fail)
            go_wp2
            exact ⟨⟨e + 1, by omega, by go_num, HG.out.drewN _⟩, by simp [intOf]; omega⟩
          · obtain rfl : e = M := by omega
            obtain ⟨P, E, hPE⟩ : ∃ P E, findR X'.l ⟨vl, mac⟩ = (P, E) := ⟨_, _, rfl⟩
            have HPE := Lib.hid hPE
            clear hPE
            go_wp2_with (first
              | (go_at_call 12; (with_reducible refine (find_x tb mb R X' vl mac P E wr (T5.out.next HG.out.below) HK.out HPE.out).mono ?_); rintro e1 y ⟨rfl, g0⟩; have G0 := Lib.hid (HG.out.trans g0); clear g0 y0 y1 y2; obtain ⟨y0, y1, y2⟩ := (K5.out.next G0.out.below).cells)
              | (go_at_call 13; (with_reducible refine (rfind_x R aT' c' LR X'.l e vl mac P E y (Q5.out.next G0.out.below) OK'.out.sorted HMM.out HPE.out).mono ?_); rintro e2 z ⟨rfl, g1⟩; have G1 := Lib.hid (G0.out.trans g1); clear g1))
            exact ⟨⟨j + 1, by omega, X', aT', e, c', LR, by go_num, ⟨T5.out.next G1.out.below, K5.out.next G1.out.below, Q5.out.next G1.out.below, hc', HMM.out, HLR.out, hLRj⟩, B5.out.trans (G1.out.below.mono B5.out.size)⟩, by simp [intOf]; omega⟩
    · obtain rfl : j = n := by omega
      go_wp2
      go_ret
      exact ⟨rfl, B.out⟩
end Go.Proofs.Ytkpfdaomhkcokaa
