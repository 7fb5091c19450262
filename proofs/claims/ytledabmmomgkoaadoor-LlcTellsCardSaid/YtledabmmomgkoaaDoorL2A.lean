/-
  Walks of layer 2: HasPrefix, the closure that asks for a head, reserved, Kind.
-/
import Derived.Test.YtledabmmomgkoaaDoorL2Math
import Derived.LoopN
namespace Go.Proofs.YtledabmmomgkoaaDoor
set_option linter.unusedVariables false
set_option linter.unusedSimpArgs false
open Go.RowKit Fm

set_option maxHeartbeats 400000 in
theorem liteHas_any (s b : ByteArray) (w : World) (hs : s.size ≤ maxLen) (hb : b.size ≤ maxLen) :
    Calls Tryd.prog 29 #[.string s, .string b] w fun e w' => e = .returned (.bool (begB s b)) ∧ w = w' := by
  unfold maxLen at hs hb
  go_enter Tryd.func29, Tryd.ntmps29
  go_wp2
  all_goals go_ret
  all_goals refine ⟨ret_bool ?_, rfl⟩
  all_goals go_light
  all_goals simp_all [begB]
  all_goals (intro h; exfalso; omega)

set_option maxHeartbeats 400000 in
theorem has_any (s b : ByteArray) (w : World) (hs : s.size ≤ maxLen) (hb : b.size ≤ maxLen) :
    Calls Tryd.prog 28 #[.string s, .string b] w fun e w' => e = .returned (.bool (begB s b)) ∧ w = w' := by
  go_enter Tryd.func28, Tryd.ntmps28
  go_wp2_with (go_at_call 29; refine (liteHas_any _ _ _ hs hb).mono ?_; rintro e w' ⟨rfl, rfl⟩)
  go_ret
  exact ⟨rfl, rfl⟩

set_option maxHeartbeats 400000 in
theorem reserved_any (s : ByteArray) (w : World) (hs : s.size ≤ maxLen) (hc : w.cell? ⟨0, 4, none⟩ = some (.string g2)) :
    Calls Tryd.prog 21 #[.string s] w fun e w' => e = .returned (.bool (resB s)) ∧ w = w' := by
  unfold maxLen at hs
  go_enter Tryd.func21, Tryd.ntmps21
  go_wp2
  all_goals go_ret
  all_goals refine ⟨ret_bool ?_, rfl⟩
  all_goals go_light
  all_goals simp_all [resB, leB]

abbrev hv (g b : ByteArray) : Value := .agg #[.string g, .string b]

set_option maxHeartbeats 1000000 in
theorem asks_any (d s : ByteArray) (t : Bool) (p v ty : Int) (pl : ByteArray) (g b : ByteArray) (k : Nat) (w : World) (hk : Blk w k d s t p v ty pl) (hp : pl.size ≤ maxLen) (hb : b.size ≤ maxLen) :
    Calls Tryd.prog 27 #[hv g b, .pointer (some ⟨k, 0, none⟩)] w fun e w' => e = .returned (.bool (headB d ty pl g b)) ∧ Below w.heap.size w w' := by
  have hl := hk.lt
  have y := hk.cells
  obtain ⟨c0, c1, c2, c3, c4, c5, c6⟩ := y
  unfold hv
  go_enter Tryd.func27, Tryd.ntmps27
  go_wp2_with (go_at_call 28; refine (has_any _ _ _ hp hb).mono ?_; rintro e w' ⟨rfl, rfl⟩)
  all_goals go_ret
  all_goals refine ⟨ret_bool ?_, below_box _ _⟩
  all_goals go_light
  all_goals simp_all [headB]
  all_goals (intro h; exfalso; omega)

set_option maxHeartbeats 400000 in
theorem beginning_any (d s : ByteArray) (t : Bool) (p v ty : Int) (pl : ByteArray) (w : World) :
    Calls Tryd.prog 20 #[fv d s t p v ty pl] w fun e w' => ∃ k, e = .returned (.func (.func 27) #[] #[.pointer (some ⟨k, 0, none⟩)]) ∧ w.heap.size ≤ k ∧ Blk w' k d s t p v ty pl ∧ Below w.heap.size w w' := by
  have hmf : ∀ (fn : Fn) (first cap : Array Value) (w : World), (Instr.makeFunc fn first cap).run Tryd.prog w = .ok (.func fn first cap) w := fun _ _ _ _ => rfl
  unfold fv
  go_enter Tryd.func20, Tryd.ntmps20
  go_wp2
  go_ret
  exact ⟨w.heap.size, rfl, Nat.le_refl _, blk_new w d s t p v ty pl, below_box _ _⟩

/-- The table of heads, as it stands in memory. -/
def Heads (w : World) : Prop :=
  w.cell? ⟨0, 0, none⟩ = some (.string g0) ∧ w.cell? ⟨0, 1, none⟩ = some (.string b0) ∧ w.cell? ⟨0, 2, none⟩ = some (.string g1) ∧ w.cell? ⟨0, 3, none⟩ = some (.string b1) ∧ w.cell? ⟨0, 4, none⟩ = some (.string g2) ∧ w.cell? ⟨0, 5, none⟩ = some (.string b2)
theorem Heads.pos {w : World} (h : Heads w) : 0 < w.heap.size := by
  have h0 := h.1
  rcases Nat.eq_zero_or_pos w.heap.size with e | e
  · exfalso
    have : w.heap[0]? = none := Array.getElem?_eq_none (by omega)
    simp [World.cell?, this] at h0
  · exact e
theorem Heads.below {w w' : World} {B : Nat} (h : Heads w) (hb : Below B w w') (hB : 0 < B) : Heads w' := by
  obtain ⟨h0, h1, h2, h3, h4, h5⟩ := h
  exact ⟨(hb.cell (p := ⟨0, 0, none⟩) hB).trans h0, (hb.cell (p := ⟨0, 1, none⟩) hB).trans h1, (hb.cell (p := ⟨0, 2, none⟩) hB).trans h2, (hb.cell (p := ⟨0, 3, none⟩) hB).trans h3, (hb.cell (p := ⟨0, 4, none⟩) hB).trans h4, (hb.cell (p := ⟨0, 5, none⟩) hB).trans h5⟩
theorem Heads.next {w w' : World} (h : Heads w) (hb : Below w.heap.size w w') : Heads w' := h.below hb h.pos
theorem Heads.set {w : World} (h : Heads w) {b : Nat} (i : Nat) (x : Value) (hb : 0 < b) : Heads (w.setCell ⟨b, i, none⟩ x) := h.below ((Below.refl 1 w).setCell (p := ⟨b, i, none⟩) hb x) Nat.one_pos
theorem Heads.set7 {w : World} (h : Heads w) {b : Nat} (hb : 0 < b) (v0 v1 v2 v3 v4 v5 v6 : Value) :
    Heads (((((((w.setCell ⟨b, 0, none⟩ v0).setCell ⟨b, 1, none⟩ v1).setCell ⟨b, 2, none⟩ v2).setCell ⟨b, 3, none⟩ v3).setCell ⟨b, 4, none⟩ v4).setCell ⟨b, 5, none⟩ v5).setCell ⟨b, 6, none⟩ v6) :=
  ((((((h.set 0 v0 hb).set 1 v1 hb).set 2 v2 hb).set 3 v3 hb).set 4 v4 hb).set 5 v5 hb).set 6 v6 hb
theorem Blk.set0 {w : World} {b : Nat} {d s : ByteArray} {t : Bool} {p v ty : Int} {pl : ByteArray} (h : Blk w b d s t p v ty pl) (d' : ByteArray) :
    Blk (w.setCell ⟨b, 0, none⟩ (.string d')) b d' s t p v ty pl := by
  unfold Blk at h ⊢
  exact blk_set (i := 0) (x := .string d') (cs' := #[.string d', .string s, .bool t, .int .i64 p, .int .i64 v, .int .i64 ty, .string pl]) h rfl
theorem right_w (d s : ByteArray) (t : Bool) (p v ty : Int) (pl : ByteArray) (w : World) (r : Bool) (hr : Hid (rightB ⟨d, s, t, p, v, ty, pl⟩ = r)) (hd : d.size ≤ maxLen) (hs : s.size ≤ maxLen) (hp : pl.size ≤ maxLen) :
    Calls Tryd.prog 16 #[fv d s t p v ty pl] w fun e w' => e = .returned (.bool r) ∧ Below w.heap.size w w' := by
  have h := right_any d s t p v ty pl w hd hs hp
  rw [hr.out] at h
  exact h
theorem with_is (d s : ByteArray) (t : Bool) (p v ty : Int) (pl : ByteArray) (vl : Int) (w : World) (fd fs : ByteArray) (ft : Bool) (fp fvl fty : Int) (fpl : ByteArray) (E : Int) (hr : Hid (withR ⟨d, s, t, p, v, ty, pl⟩ vl = (⟨fd, fs, ft, fp, fvl, fty, fpl⟩, E))) (hd : d.size ≤ maxLen) (hs : s.size ≤ maxLen) (hp : pl.size ≤ maxLen) :
    Calls Tryd.prog 17 #[fv d s t p v ty pl, .int .i64 vl] w fun e w' => e = .returned (.tuple #[fv fd fs ft fp fvl fty fpl, .int .i64 E]) ∧ Below w.heap.size w w' := by
  have h := with_R d s t p v ty pl vl w hd hs hp
  rw [hr.out] at h
  exact h
end Go.Proofs.YtledabmmomgkoaaDoor
