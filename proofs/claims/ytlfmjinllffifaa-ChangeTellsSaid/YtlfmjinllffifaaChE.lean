/-
  Layer 13: the document's Step, where it refuses; whole; the document's Pass.
-/
import Derived.Test.YtlfmjinllffifaaChD
namespace Go.Proofs.Ytlfmjinllffifaa
set_option linter.unusedVariables false
set_option linter.unusedSimpArgs false
open Go.RowKit Vm Rm Bm Im

/-- A row of the document's ports, copied behind an empty one. -/
theorem copied {w W w1 : World} {l : List Pt} {v' : Value} (hWW : Below W.heap.size W (W.alloc (.cells #[] 54))) (hown : w1.ownsRow W.heap.size 54 61 v' l.length (cells61 l)) : ∃ (a : Option Addr) (cap : Nat), v' = .slice a l.length cap ∧ l.length ≤ cap ∧ ((a = none ∧ l = []) ∨ ∃ g, a = some ⟨g, 0, none⟩ ∧ W.heap.size ≤ g ∧ WRow w1 g l) := by
  obtain ⟨a', cap', h1, h2, h3, h4⟩ := prow_owned (l := l) hown
  exact ⟨a', cap', h1, h2, h4⟩

set_option maxRecDepth 20000 in
set_option maxHeartbeats 4000000 in
theorem rstep_no_w (i : Int) (t : Tm) (ad : Addr) (cap : Nat) (at' : Int) (l : List Pt) (w : World) (hr : PRow w (some ad) l) (hl : l.length ≤ 1000) (hno : rightBr t = false ∨ at' < 0 ∨ (l.length : Int) ≤ at') :
    Calls Try.prog 7 #[brv i t.age t.max t.hello t.delay, .slice (some ad) l.length cap, .int .i64 at'] w fun e w' => Out w w' l.length l false e := by
  obtain ⟨W, hW⟩ : ∃ W, w.alloc (.cells (bcl i t.age t.max t.hello t.delay) 31) = W := ⟨_, rfl⟩
  obtain ⟨bb, hbb⟩ : ∃ b, w.heap.size = b := ⟨_, rfl⟩
  have K0 := Lib.hid (show RbBlk W bb i t.age t.max t.hello t.delay by rw [← hW, ← hbb]; exact heap_alloc_new w _)
  have B0 := Lib.hid (show Below w.heap.size w W by rw [← hW]; exact below_box w _)
  have HBB := Lib.hid hbb
  have HW := Lib.hid hW
  obtain ⟨i0, hi, hz0, hz1, hz2⟩ := info_parts infoR61
  have O := World.ownsRow_lit (base := W.heap.size) (e := 54) (size := 61) W #[] 0 (Nat.le_refl _) (Nat.zero_le _) rfl
  have hWW := below_box W (.cells #[] 54)
  have hnews := ((hr.next B0.out).next hWW).news
  have HC := Lib.hid (cells61_length l)
  have H1 := Lib.hid (cells61_one l)
  obtain ⟨n, hn⟩ : ∃ n, l.length = n := ⟨_, rfl⟩
  have HN := Lib.hid hn
  obtain ⟨RB, hRB⟩ : ∃ R, rightBr ⟨t.age, t.max, t.hello, t.delay⟩ = R := ⟨_, rfl⟩
  have CB := Lib.hid (fun w' => rbr_w i t.age t.max t.hello t.delay RB w' (Lib.hid hRB))
  rw [show rightBr t = RB from hRB] at hno
  clear hW hbb hr hRB
  unfold brv
  unfold bcl at *
  rw [hn] at hl hno ⊢
  go_enter Try.func7, Try.ntmps7
  go_upto_region 1 with (fail)
  refine wp_to (W := W) (by exact HW.out.symm) ?_
  rw [HBB.out]
  go_upto_region 2 with (at_builtin; refine wpList_append_own_at _ (by rfl) _ _ _ (by rfl) W.heap.size 54 i0 (.agg (cellsT zeroP)) 61 296 Try.underlying34 hi hz0 hz1 hz2 (by exact cellsT_size zeroP) (by decide) _ 0 _ (by rfl) O ad n cap (cells61 l) (by rfl) (by rw [← hn]; exact HC.out) hnews H1.out (by unfold maxLen; omega) (by omega) (by simp) ?_; intro v' w1 hown hgrow hnil hat)
  obtain ⟨a', cap', rfl, hcap, hw⟩ := copied (w := w) (l := l) hWW (by rw [hn]; simpa using hown)
  rw [hn] at hcap ⊢
  have hB1 : Below W.heap.size W w1 := hWW.grown hgrow (by simp) (fun j e => by simp [Value.ownBlock] at e; omega)
  have HB1 := Lib.hid (bw_trans B0.out hB1)
  have K1 := Lib.hid (K0.out.next hB1)
  have O1 := Lib.hid (own_prow hw)
  obtain ⟨k0, k1, k2, k3, k4⟩ := K1.out.cells
  clear hown hgrow hnil hat hw hB1 O hWW hnews HC H1 hi hz0 hz1 hz2 B0 K0 HW
  cases RB with
  | false =>
    clear hno
    go_wp2_with (go_at_call 17; (with_reducible refine (CB.out _).mono ?_); rintro e w2 ⟨rfl, hb2⟩)
    go_ret2
    exact ⟨a', cap', rfl, hcap, O1.out.next hb2, bw_trans HB1.out hb2⟩
  | true =>
    have hno' : at' < 0 ∨ (n : Int) ≤ at' := by simpa using hno
    clear hno
    by_cases h0 : at' < 0
    · go_wp2_with (go_at_call 17; (with_reducible refine (CB.out _).mono ?_); rintro e w2 ⟨rfl, hb2⟩)
      go_ret2
      exact ⟨a', cap', rfl, hcap, O1.out.next hb2, bw_trans HB1.out hb2⟩
    · have h0' : 0 ≤ at' := by omega
      have h1 : (n : Int) ≤ at' := by omega
      have h1' : at' ≥ (n : Int) := h1
      go_wp2_with (go_at_call 17; (with_reducible refine (CB.out _).mono ?_); rintro e w2 ⟨rfl, hb2⟩)
      go_ret2
      exact ⟨a', cap', rfl, hcap, O1.out.next hb2, bw_trans HB1.out hb2⟩

set_option maxRecDepth 20000 in
set_option maxHeartbeats 4000000 in
theorem rstep_nil_w (i : Int) (t : Tm) (cap : Nat) (at' : Int) (w : World) :
    Calls Try.prog 7 #[brv i t.age t.max t.hello t.delay, .slice none 0 cap, .int .i64 at'] w fun e w' => Out w w' 0 [] false e := by
  have K0 := Lib.hid (show RbBlk (w.alloc (.cells (bcl i t.age t.max t.hello t.delay) 31)) w.heap.size i t.age t.max t.hello t.delay from heap_alloc_new w _)
  have B0 := Lib.hid (below_box w (.cells (bcl i t.age t.max t.hello t.delay) 31))
  obtain ⟨RB, hRB⟩ : ∃ R, rightBr ⟨t.age, t.max, t.hello, t.delay⟩ = R := ⟨_, rfl⟩
  have CB := Lib.hid (fun w' => rbr_w i t.age t.max t.hello t.delay RB w' (Lib.hid hRB))
  clear hRB
  unfold brv
  unfold bcl at *
  go_enter Try.func7, Try.ntmps7
  go_upto_region 2 with (fail)
  have B1 := Lib.hid (bw_alloc B0.out (.cells #[] 54))
  obtain ⟨k0, k1, k2, k3, k4⟩ := (K0.out.next (below_box _ (.cells #[] 54))).cells
  clear K0 B0
  cases RB with
  | false =>
    go_wp2_with (go_at_call 17; (with_reducible refine (CB.out _).mono ?_); rintro e w2 ⟨rfl, hb2⟩)
    go_ret2
    exact ⟨_, 0, rfl, Nat.le_refl _, prow_nil _ _, bw_trans B1.out hb2⟩
  | true =>
    by_cases h0 : at' < 0
    · go_wp2_with (go_at_call 17; (with_reducible refine (CB.out _).mono ?_); rintro e w2 ⟨rfl, hb2⟩)
      go_ret2
      exact ⟨_, 0, rfl, Nat.le_refl _, prow_nil _ _, bw_trans B1.out hb2⟩
    · have h0' : 0 ≤ at' := by omega
      have h1 : at' ≥ 0 := h0'
      go_wp2_with (go_at_call 17; (with_reducible refine (CB.out _).mono ?_); rintro e w2 ⟨rfl, hb2⟩)
      go_ret2
      exact ⟨_, 0, rfl, Nat.le_refl _, prow_nil _ _, bw_trans B1.out hb2⟩

/-- The document's Step, whole. -/
theorem rstep_w (i : Int) (t : Tm) (ad : Option Addr) (cap : Nat) (at' : Int) (l L : List Pt) (B : Bool) (w : World) (hr : PRow w ad l) (hl : l.length ≤ 1000) (hX : stepI t l at' = (L, B)) :
    Calls Try.prog 7 #[brv i t.age t.max t.hello t.delay, .slice ad l.length cap, .int .i64 at'] w fun e w' => Out w w' l.length L B e := by
  cases ad with
  | none =>
    obtain rfl : l = [] := by
      cases l with
      | nil => rfl
      | cons p l => obtain ⟨g, o, e, _⟩ := hr.at_ 0 p rfl; cases e
    have e : stepI t [] at' = ([], false) := by
      unfold stepI
      split
      · exact stepP_out (by simp)
      · rfl
    rw [e] at hX
    cases hX
    exact rstep_nil_w i t cap at' w
  | some ad =>
    by_cases h0 : at' < 0
    · have e : stepI t l at' = (l, false) := by unfold stepI; rw [if_neg (by omega)]
      rw [e] at hX
      cases hX
      exact rstep_no_w i t ad cap at' l w hr hl (.inr (.inl h0))
    · have e : stepI t l at' = stepP t l at'.toNat := by unfold stepI; rw [if_pos (by omega)]
      have hc : ((at'.toNat : Nat) : Int) = at' := by omega
      rw [e] at hX
      by_cases h1 : at'.toNat < l.length
      · cases hb : rightBr t with
        | false =>
          rw [stepP_wrong hb] at hX
          cases hX
          exact rstep_no_w i t ad cap at' l w hr hl (.inl hb)
        | true =>
          have := rstep_ok_w i t ad cap at'.toNat l L B w hr hl h1 hb hX
          rwa [hc] at this
      · rw [stepP_out h1] at hX
        cases hX
        exact rstep_no_w i t ad cap at' l w hr hl (.inr (.inr (by omega)))
def RcInv (t : Tm) (l : List Pt) (n : Nat) (w : World) (u6 u7 : Value) (wr : World) : Prop :=
  ∃ (k c : Nat) (a : Option Addr), k ≤ n ∧ u6 = .slice a n c ∧ u7 = .int .i64 ((k : Nat) : Int) ∧ n ≤ c ∧ PRow wr a (cpassN t l k) ∧ Below w.heap.size w wr

set_option maxRecDepth 20000 in
set_option maxHeartbeats 4000000 in
theorem rcpass_some_w (i : Int) (t : Tm) (ad : Addr) (cap : Nat) (l L : List Pt) (B : Bool) (w : World) (hr : PRow w (some ad) l) (hl : l.length ≤ 1000) (hX : cpassP t l = (L, B)) :
    Calls Try.prog 10 #[brv i t.age t.max t.hello t.delay, .slice (some ad) l.length cap] w fun e w' => Out w w' l.length L B e := by
  obtain ⟨W, hW⟩ : ∃ W, w.alloc (.cells (bcl i t.age t.max t.hello t.delay) 31) = W := ⟨_, rfl⟩
  obtain ⟨bb, hbb⟩ : ∃ b, w.heap.size = b := ⟨_, rfl⟩
  have K0 := Lib.hid (show RbBlk W bb i t.age t.max t.hello t.delay by rw [← hW, ← hbb]; exact heap_alloc_new w _)
  have B0 := Lib.hid (show Below w.heap.size w W by rw [← hW]; exact below_box w _)
  have HBB := Lib.hid hbb
  have HW := Lib.hid hW
  obtain ⟨i0, hi, hz0, hz1, hz2⟩ := info_parts infoR61
  have O := World.ownsRow_lit (base := W.heap.size) (e := 54) (size := 61) W #[] 0 (Nat.le_refl _) (Nat.zero_le _) rfl
  have hWW := below_box W (.cells #[] 54)
  have hnews := ((hr.next B0.out).next hWW).news
  have HC := Lib.hid (cells61_length l)
  have H1 := Lib.hid (cells61_one l)
  have HR := Lib.hid hr
  obtain ⟨n, hn⟩ : ∃ n, l.length = n := ⟨_, rfl⟩
  have HN := Lib.hid hn
  have hL : cpassN t l n = L := by
    have := congrArg Prod.fst hX
    rw [← hn]; exact this
  have hBq : (!decide (cpassN t l n = l)) = B := by
    have := congrArg Prod.snd hX
    rw [← hn]; exact this
  have CE := Lib.hid (fun w' (a' : Option Addr) (cap' : Nat) (h' : PRow w' a' (cpassN t l n)) (h : PRow w' (some ad) l) => rsame_w a' (some ad) cap' cap (cpassN t l n) l n (!B) w' h' h ((cpassN_len t l n).trans hn) hn (by omega) (Lib.hid (by rw [← hBq, Bool.not_not])))
  have CS := Lib.hid (fun w' (a' : Option Addr) (cap' k : Nat) (h : PRow w' a' (cpassN t l k)) => show Calls Try.prog 7 #[brv i t.age t.max t.hello t.delay, .slice a' n cap', .int .i64 ((k : Nat) : Int)] w' (fun e w'' => Out w' w'' n (cpassN t l (k + 1)) (stepP t (cpassN t l k) k).2 e) from by
    have e := (cpassN_len t l k).trans hn
    have := rstep_w i t a' cap' ((k : Nat) : Int) (cpassN t l k) (stepP t (cpassN t l k) k).1 (stepP t (cpassN t l k) k).2 w' h (by omega) (by unfold stepI; rw [if_pos (by omega), Int.toNat_natCast])
    rwa [e] at this)
  have HL := Lib.hid hL
  clear hW hbb hr hX hL hBq
  unfold brv at *
  unfold bcl at *
  rw [hn] at hl ⊢
  go_enter Try.func10, Try.ntmps10
  go_upto_region 1 with (fail)
  refine wp_to (W := W) (by exact HW.out.symm) ?_
  rw [HBB.out]
  go_upto_region 2 with (at_builtin; refine wpList_append_own_at _ (by rfl) _ _ _ (by rfl) W.heap.size 54 i0 (.agg (cellsT zeroP)) 61 296 Try.underlying34 hi hz0 hz1 hz2 (by exact cellsT_size zeroP) (by decide) _ 0 _ (by rfl) O ad n cap (cells61 l) (by rfl) (by rw [← hn]; exact HC.out) hnews H1.out (by unfold maxLen; omega) (by omega) (by simp) ?_; intro v' w1 hown hgrow hnil hat)
  obtain ⟨a', cap', rfl, hcap, hw⟩ := copied (w := w) (l := l) hWW (by rw [hn]; simpa using hown)
  rw [hn] at hcap ⊢
  have hB1 : Below W.heap.size W w1 := hWW.grown hgrow (by simp) (fun j e => by simp [Value.ownBlock] at e; omega)
  have HB1 := Lib.hid (bw_trans B0.out hB1)
  have K1 := Lib.hid (K0.out.next hB1)
  have O1 := Lib.hid (own_prow hw)
  clear hown hgrow hnil hat hw hB1 O hWW hnews HC H1 hi hz0 hz1 hz2 B0 K0 HW
  go_wp2_with fail
  go_loopw [6, 7] (fun u6 u7 wr => RcInv t l n w1 u6 u7 wr) (fun _ v _ => n - (intOf v).toNat)
  case atStart => exact ⟨0, cap', a', Nat.zero_le _, rfl, rfl, hcap, O1.out, Below.refl _ _⟩
  case round =>
    obtain ⟨k, c, a, hk, rfl, rfl, hc, hrow, hG⟩ := hrel
    have HRW := Lib.hid hrow
    have HG := Lib.hid hG
    obtain ⟨k0, k1, k2, k3, k4⟩ := (K1.out.next hG).cells
    clear hrow hG
    by_cases hkl : k < n
    · have hki : (k : Int) < n := by omega
      have HS := Lib.hid (CS.out wr a c k HRW.out)
      clear CE CS
      go_wp2_with (go_at_call 7; (with_reducible refine HS.out.mono ?_); rintro e w2 ⟨a2, c2, rfl, h1, h2, h3⟩)
      exact ⟨⟨k + 1, c2, a2, by omega, rfl, by go_num, h1, h2, bw_trans HG.out h3⟩, by simp [intOf]; omega⟩
    · obtain rfl : k = n := by omega
      have HF := Lib.hid (bw_trans HB1.out HG.out)
      have HE := Lib.hid (CE.out wr a c HRW.out (HR.out.next HF.out))
      clear CE CS
      go_wp2_with (go_at_call 22; (with_reducible refine HE.out.mono ?_); rintro e w3 ⟨rfl, hb3⟩)
      go_ret2
      exact ⟨a, c, rfl, hc, by rw [← HL.out]; exact HRW.out.next hb3, bw_trans HF.out hb3⟩

set_option maxRecDepth 20000 in
set_option maxHeartbeats 4000000 in
theorem rcpass_nil_w (i : Int) (t : Tm) (cap : Nat) (w : World) :
    Calls Try.prog 10 #[brv i t.age t.max t.hello t.delay, .slice none 0 cap] w fun e w' => Out w w' 0 [] false e := by
  have B0 := Lib.hid (below_box w (.cells (bcl i t.age t.max t.hello t.delay) 31))
  have B1 := Lib.hid (bw_alloc B0.out (.cells #[] 54))
  have CE := Lib.hid (fun w' (a' : Option Addr) => rsame_w a' none 0 cap [] [] 0 true w' (prow_nil _ _) (prow_nil _ _) rfl rfl (by omega) (Lib.hid rfl))
  unfold brv
  unfold bcl at *
  go_enter Try.func10, Try.ntmps10
  go_wp2_with fail
  obtain ⟨W, hW⟩ : ∃ W, (w.alloc (.cells #[.int .u64 i, .int .i64 t.age, .int .i64 t.max, .int .i64 t.hello, .int .i64 t.delay] 31)).alloc (.cells #[] 54) = W := ⟨_, rfl⟩
  rw [hW] at B1
  refine wp_to (W := W) (by exact hW.symm) ?_
  clear hW
  go_loopw [6, 7] (fun u v wr => (∃ a : Option Addr, u = .slice a 0 0) ∧ v = .int .i64 0 ∧ Below W.heap.size W wr) (fun _ v _ => 0)
  case atStart => exact ⟨⟨_, rfl⟩, rfl, Below.refl _ _⟩
  case round =>
    obtain ⟨⟨a, rfl⟩, rfl, hG⟩ := hrel
    have HG := Lib.hid (bw_trans B1.out hG)
    clear hG
    go_wp2_with (go_at_call 22; (with_reducible refine (CE.out _ _).mono ?_); rintro e w3 ⟨rfl, hb3⟩)
    go_ret2
    exact ⟨_, 0, rfl, Nat.le_refl _, prow_nil _ _, bw_trans HG.out hb3⟩
/-- The document's Pass, whole. -/
theorem rcpass_w (i : Int) (t : Tm) (ad : Option Addr) (cap : Nat) (l L : List Pt) (B : Bool) (w : World) (hr : PRow w ad l) (hl : l.length ≤ 1000) (hX : cpassP t l = (L, B)) :
    Calls Try.prog 10 #[brv i t.age t.max t.hello t.delay, .slice ad l.length cap] w fun e w' => Out w w' l.length L B e := by
  cases ad with
  | none =>
    obtain rfl : l = [] := by
      cases l with
      | nil => rfl
      | cons p l => obtain ⟨g, o, e, _⟩ := hr.at_ 0 p rfl; cases e
    have e : cpassP t [] = ([], false) := rfl
    rw [e] at hX
    cases hX
    exact rcpass_nil_w i t cap w
  | some ad => exact rcpass_some_w i t ad cap l L B w hr hl hX
end Go.Proofs.Ytlfmjinllffifaa
