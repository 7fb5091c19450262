/-
  Layer 1's functions that layer 2 and on reach: With, Few, the document's Right; '==' between frames; a frame among the arguments.
-/
import Derived.Test.YtjabbbaiboaicaaLKit
import Derived.ProofKit
import Derived.OpenShut
import Derived.ShutString
import Derived.ChangeOld
import Derived.Deep.Fields
import Derived.Lib.SmallJoins
namespace Go.Proofs.Ytjabbbaiboaicaa
set_option linter.unusedVariables false
set_option linter.unusedSimpArgs false
open Go.ChangeShapes Go.WideShapes Go.ChangeAt Go.RowKit Go.Joins Go.Deep Fm

set_option maxHeartbeats 1000000 in
theorem with_any (d s : ByteArray) (t : Bool) (p v ty : Int) (pl : ByteArray) (vl : Int) (w : World) (F : Fr) (E : Int) (hd : d.size ≤ maxLen) (hs : s.size ≤ maxLen) (hp : pl.size ≤ maxLen)
    (h2 : Hid (rightB ⟨d, s, t, p, v, ty, pl⟩ = false → F = zero ∧ E = 2))
    (h1 : Hid (rightB ⟨d, s, t, p, v, ty, pl⟩ = true → withinB vl 4094 = false → F = zero ∧ E = 1))
    (h0 : Hid (rightB ⟨d, s, t, p, v, ty, pl⟩ = true → withinB vl 4094 = true → F = ⟨d, s, true, p, vl, ty, pl⟩ ∧ E = 0)) :
    Calls Try.prog 27 #[fv d s t p v ty pl, .int .i64 vl] w fun e w' => e = .returned (.tuple #[F.val, .int .i64 E]) ∧ Below w.heap.size w w' := by
  go_enter Try.func27, Try.ntmps27
  go_wp2_with fail
  refine (right_any _ _ _ _ _ _ _ _ hd hs hp).mono ?_
  rintro e w1 ⟨rfl, hb1⟩
  have Q := blk_two w d s t p v ty pl ⟨#[]⟩ ⟨#[]⟩ false 0 0 0 ⟨#[]⟩
  have k1 := Q.1.below hb1 Q.1.lt
  have R1 := Q.2.below hb1 Q.2.lt
  have B1 := bw_trans (bw_alloc (below_box w _) _) hb1
  clear hb1 Q
  cases hr : rightB ⟨d, s, t, p, v, ty, pl⟩ with
  | false =>
    obtain ⟨rfl, rfl⟩ := h2.out hr
    clear h0 h1 h2 hr
    have y := R1.cells
    obtain ⟨q0, q1, q2, q3, q4, q5, q6⟩ := y
    have f0 := R1.free 0
    have f1 := R1.free 1
    have f2 := R1.free 2
    have f3 := R1.free 3
    have f4 := R1.free 4
    have f5 := R1.free 5
    have f6 := R1.free 6
    go_wp2
    exact bodyPost_ret (v := .tuple #[zero.val, .int .i64 2]) (by simp [results, Try.results27, go_sem, zero, q0, q1, q2, q3, q4, q5, q6]) rfl ⟨rfl, below_set7 B1 (Nat.le_succ _) _ _ _ _ _ _ _⟩
  | true =>
    have h1' := Lib.hid (h1.out hr)
    have h0' := Lib.hid (h0.out hr)
    clear h0 h1 h2 hr
    go_wp2_with fail
    refine (within_any _ _ _).mono ?_
    rintro e w2 ⟨rfl, rfl⟩
    cases hv : withinB vl 4094 with
    | false =>
      obtain ⟨rfl, rfl⟩ := h1'.out hv
      clear h0' h1' hv
      have y := R1.cells
      obtain ⟨q0, q1, q2, q3, q4, q5, q6⟩ := y
      have f0 := R1.free 0
      have f1 := R1.free 1
      have f2 := R1.free 2
      have f3 := R1.free 3
      have f4 := R1.free 4
      have f5 := R1.free 5
      have f6 := R1.free 6
      go_wp2
      exact bodyPost_ret (v := .tuple #[zero.val, .int .i64 1]) (by simp [results, Try.results27, go_sem, zero, q0, q1, q2, q3, q4, q5, q6]) rfl ⟨rfl, below_set7 B1 (Nat.le_succ _) _ _ _ _ _ _ _⟩
    | true =>
      obtain ⟨rfl, rfl⟩ := h0'.out hv
      clear h0' h1' hv
      have y := k1.cells
      obtain ⟨c0, c1, c2, c3, c4, c5, c6⟩ := y
      have g2 := k1.free 2
      have g4 := k1.free 4
      have y := R1.cells
      obtain ⟨q0, q1, q2, q3, q4, q5, q6⟩ := y
      have f0 := R1.free 0
      have f1 := R1.free 1
      have f2 := R1.free 2
      have f3 := R1.free 3
      have f4 := R1.free 4
      have f5 := R1.free 5
      have f6 := R1.free 6
      go_wp2
      exact bodyPost_ret (v := .tuple #[fv d s true p vl ty pl, .int .i64 0]) (by simp [results, Try.results27, go_sem, q0, q1, q2, q3, q4, q5, q6]) rfl ⟨rfl, below_set7 ((B1.setCell (Nat.le_refl _) _).setCell (Nat.le_refl _) _) (Nat.le_succ _) _ _ _ _ _ _ _⟩

theorem with_R (d s : ByteArray) (t : Bool) (p v ty : Int) (pl : ByteArray) (vl : Int) (w : World) (hd : d.size ≤ maxLen) (hs : s.size ≤ maxLen) (hp : pl.size ≤ maxLen) :
    Calls Try.prog 27 #[fv d s t p v ty pl, .int .i64 vl] w fun e w' => e = .returned (.tuple #[(withR ⟨d, s, t, p, v, ty, pl⟩ vl).1.val, .int .i64 (withR ⟨d, s, t, p, v, ty, pl⟩ vl).2]) ∧ Below w.heap.size w w' := by
  refine with_any d s t p v ty pl vl w _ _ hd hs hp ?_ ?_ ?_
  · intro h; simp [withR, h]
  · intro h h'; simp [withR, h, h']
  · intro h h'; simp [withR, h, h']
def fewB (f : Fr) : Bool := decide (f.dst.size ≤ 20 ∧ f.src.size ≤ 20 ∧ f.pay.size ≤ 1600)
set_option maxHeartbeats 400000 in
theorem few_any (d s : ByteArray) (t : Bool) (p v ty : Int) (pl : ByteArray) (w : World) (hd : d.size ≤ maxLen) (hs : s.size ≤ maxLen) (hp : pl.size ≤ maxLen) :
    Calls Try.prog 6 #[fv d s t p v ty pl] w fun e w' => e = .returned (.bool (fewB ⟨d, s, t, p, v, ty, pl⟩)) ∧ Below w.heap.size w w' := by
  unfold maxLen at hd hs hp
  unfold fv
  go_enter Try.func6, Try.ntmps6
  go_wp2
  all_goals go_ret
  all_goals refine ⟨ret_bool ?_, below_box _ _⟩
  all_goals go_light
  all_goals (unfold fewB; rw [Bool.eq_iff_iff]; simp; omega)
theorem grp_iff (s : ByteArray) (h : s.size = 6) : grpB s = decide (((s[0]'(by omega)).toNat : Int) % 2 = 1) := by
  unfold grpB; rw [dif_pos h, Bool.eq_iff_iff]; simp; omega

def RightP (d s : ByteArray) (t : Bool) (p v ty : Int) (pl : ByteArray) : Prop :=
  d.size = 6 ∧ s.size = 6 ∧ grpB s = false ∧ (0 ≤ p ∧ p ≤ 7 ∧ 0 ≤ v ∧ v ≤ 4094) ∧ (t = true ∨ (p = 0 ∧ v = 0)) ∧ 0 ≤ ty ∧ ty ≤ 65535 ∧ ty ≠ 33024 ∧ pl.size ≤ 1500 ∧ (1536 ≤ ty ∨ ty = pl.size)
theorem right_iff {d s : ByteArray} {t : Bool} {p v ty : Int} {pl : ByteArray} : rightB ⟨d, s, t, p, v, ty, pl⟩ = true ↔ RightP d s t p v ty pl := by
  unfold rightB tagB typB withinB RightP
  cases t <;> simp <;> constructor
  all_goals (rintro ⟨h1, h2⟩; simp_all)
  all_goals omega
theorem right_no {d s : ByteArray} {t : Bool} {p v ty : Int} {pl : ByteArray} (h : ¬ RightP d s t p v ty pl) : false = rightB ⟨d, s, t, p, v, ty, pl⟩ := by
  cases hb : rightB ⟨d, s, t, p, v, ty, pl⟩
  · rfl
  · exact absurd (right_iff.1 hb) h
theorem right_yes {d s : ByteArray} {t : Bool} {p v ty : Int} {pl : ByteArray} (h : RightP d s t p v ty pl) : true = rightB ⟨d, s, t, p, v, ty, pl⟩ := (right_iff.2 h).symm

set_option maxHeartbeats 2000000 in
set_option maxRecDepth 100000 in
theorem rright_any (d s : ByteArray) (t : Bool) (p v ty : Int) (pl : ByteArray) (w : World) (hd : d.size ≤ maxLen) (hs : s.size ≤ maxLen) (hp : pl.size ≤ maxLen) :
    Calls Try.prog 25 #[fv d s t p v ty pl] w fun e w' => e = .returned (.bool (rightB ⟨d, s, t, p, v, ty, pl⟩)) ∧ Below w.heap.size w w' := by
  unfold maxLen at hd hs hp
  unfold fv
  go_enter Try.func25, Try.ntmps25
  go_wp2
  all_goals go_light
  all_goals go_ret
  all_goals refine ⟨ret_bool ?_, below_box _ _⟩
  all_goals (try simp only [beq_eq_false_iff_ne, beq_iff_eq, bne_iff_ne, bne_eq_false_iff_eq, ne_eq, Bool.not_eq_true] at *)
  all_goals first
    | (refine right_no ?_; rintro ⟨h1, h2, h3, h4, h5, h6⟩; exfalso; first | omega | (rw [grp_iff s h2] at h3; simp at h3; omega) | (subst t; simp at h5; omega))
    | (refine right_yes ⟨by omega, by omega, by rw [grp_iff s (by omega)]; simp; omega, by omega, by first | (left; rfl) | (right; omega), by omega, by omega, by omega, by omega, by omega⟩)
    | (rw [Bool.eq_iff_iff, right_iff]; constructor
       · intro h; simp at h; refine ⟨by omega, by omega, by rw [grp_iff s (by omega)]; simp; omega, by omega, by first | (left; assumption) | (right; omega), by omega, by omega, by omega, by omega, by omega⟩
       · rintro ⟨h1, h2, h3, h4, h5, h6⟩; simp; omega)
theorem bytes_ext {a b : ByteArray} (h : a.data.toList = b.data.toList) : a = b := by
  obtain ⟨x⟩ := a
  obtain ⟨y⟩ := b
  have : x = y := Array.toList_inj.1 h
  rw [this]
def frEq (f g : Fr) : Bool := (f.dst.toList == g.dst.toList) && ((f.src.toList == g.src.toList) && ((f.tagged == g.tagged) && ((f.pri == g.pri) && ((f.vlan == g.vlan) && ((f.typ == g.typ) && (f.pay.toList == g.pay.toList))))))

theorem run_frEq (d s : ByteArray) (t : Bool) (p v ty : Int) (pl : ByteArray) (d' s' : ByteArray) (t' : Bool) (p' v' ty' : Int) (pl' : ByteArray) (w : World) :
    Sem.run Try.prog (binOp .eql 26 (fv d s t p v ty pl) (fv d' s' t' p' v' ty' pl')) w = .ok (.bool (frEq ⟨d, s, t, p, v, ty, pl⟩ ⟨d', s', t', p', v', ty', pl'⟩)) w := by
  unfold fv
  go_simp
  repeat' split
  all_goals simp_all [frEq]

theorem run_frNe (d s : ByteArray) (t : Bool) (p v ty : Int) (pl : ByteArray) (d' s' : ByteArray) (t' : Bool) (p' v' ty' : Int) (pl' : ByteArray) (w : World) :
    Sem.run Try.prog (binOp .neq 26 (fv d s t p v ty pl) (fv d' s' t' p' v' ty' pl')) w = .ok (.bool (!frEq ⟨d, s, t, p, v, ty, pl⟩ ⟨d', s', t', p', v', ty', pl'⟩)) w := by
  unfold fv
  go_simp
  repeat' split
  all_goals simp_all [frEq]

theorem list_eq {a b : ByteArray} (h : a.toList = b.toList) : a = b := by
  rw [ByteArray.toList_eq, ByteArray.toList_eq] at h
  exact bytes_ext h
theorem frEq_true (f g : Fr) : frEq f g = true ↔ f = g := by
  constructor
  · intro h
    obtain ⟨d, s, t, p, v, ty, pl⟩ := f
    obtain ⟨d', s', t', p', v', ty', pl'⟩ := g
    simp [frEq] at h
    obtain ⟨h1, h2, h3, h4, h5, h6, h7⟩ := h
    obtain rfl := list_eq h1
    obtain rfl := list_eq h2
    obtain rfl := list_eq h7
    subst h3 h4 h5 h6
    rfl
  · rintro rfl
    simp [frEq]
theorem frEq_self (f : Fr) : frEq f f = true := (frEq_true f f).2 rfl
theorem own : ownKnob Try.prog.godebug = none := by kernel_rfl
theorem laidOut : laidOutB Try.prog = true := by kernel_rfl
theorem oneCellFr : ∃ fs : Array Field, Try.prog.underlying 26 = some (.struct fs) ∧ oneCellFields Try.prog fs = true ∧ fs.map (·.type) = #[9, 9, 4, 3, 3, 3, 9] :=
  ⟨_, Try.underlying26, by kernel_rfl, by kernel_rfl⟩
theorem cellsFr : Try.prog.cellsOf 26 = 7 := by kernel_rfl

theorem seven {α : Type} {l : List α} (h : l.length = 7) : ∃ a b c d e f g, l = [a, b, c, d, e, f, g] := by
  match l, h with
  | [a, b, c, d, e, f, g], _ => exact ⟨a, b, c, d, e, f, g, rfl⟩

section
variable {H : Type} {enc : TypeId × Value → H} {w : World} {base : Nat} {spare : Nat → Bool} {held : Bool}

/-- A field's own reading. -/
theorem field_of {fs : Array Field} {fuel : Nat} {cs : List Value} {x : DataW H × List MemPlace} (ht : Try.prog.underlying 26 = some (.struct fs)) (hone : oneCellFields Try.prog fs = true) (hl : cs.length = 7)
    (h : DataW.trod enc Try.prog w base spare held fuel 26 cs = some x) (i : Nat) (T : TypeId) (hi : (fs.map (·.type))[i]? = some T) (v : Value) (hv : cs[i]? = some v) :
    ∃ n y, DataW.trod enc Try.prog w base spare held n T [v] = some y := by
  obtain ⟨ys, n, _, _, _, hyl, hf⟩ := DataW.trod_struct ht h
  rw [Array.getElem?_map, Option.map_eq_some_iff] at hi
  obtain ⟨f, hfi, rfl⟩ := hi
  obtain ⟨ho, hk⟩ := hone_of hone i f hfi
  have h1 := hf i f hfi
  rw [ho, hk] at h1
  have hil : i < cs.length := (List.getElem?_eq_some_iff.1 hv).1
  have hcv : cs[i] = v := (List.getElem?_eq_some_iff.1 hv).2
  have e : (cs.drop i).take 1 = [v] := by
    rw [List.drop_eq_getElem_cons hil, hcv]
    rfl
  rw [e] at h1
  have hil2 : i < ys.length := by rw [hyl]; exact (Array.getElem?_eq_some_iff.1 hfi).1
  rw [List.getElem?_eq_getElem hil2] at h1
  exact ⟨n, _, h1⟩

theorem open_frame {r : Reach} {b0 : Nat} {v : Value} {d : DataW H} {p : List MemPlace} (hv : Value.okWide Try.prog w r b0 26 v) (h : DataW.Trod enc Try.prog w base spare held 26 v d p) :
    ∃ (d s : ByteArray) (t : Bool) (p v' ty : Int) (pl : ByteArray), v = fv d s t p v' ty pl ∧ d.size ≤ maxLen ∧ s.size ≤ maxLen ∧ pl.size ≤ maxLen := by
  obtain ⟨fs, ht, hone, hty⟩ := oneCellFr
  obtain ⟨cs, rfl, hsz⟩ := okWide_struct ht hv
  obtain ⟨l⟩ := cs
  rw [cellsFr] at hsz
  obtain ⟨c0, c1, c2, c3, c4, c5, c6, rfl⟩ := seven (l := l) hsz
  obtain ⟨fuel, hf⟩ := h
  have hf' : DataW.trod enc Try.prog w base spare held fuel 26 [c0, c1, c2, c3, c4, c5, c6] = some (d, p) := hf
  have F := fun i T hi v hv => field_of ht hone rfl hf' i T hi v hv
  rw [hty] at F
  obtain ⟨n0, y0, k0⟩ := F 0 _ rfl _ rfl
  obtain ⟨n1, y1, k1⟩ := F 1 _ rfl _ rfl
  obtain ⟨n2, y2, k2⟩ := F 2 _ rfl _ rfl
  obtain ⟨n3, y3, k3⟩ := F 3 _ rfl _ rfl
  obtain ⟨n4, y4, k4⟩ := F 4 _ rfl _ rfl
  obtain ⟨n5, y5, k5⟩ := F 5 _ rfl _ rfl
  obtain ⟨n6, y6, k6⟩ := F 6 _ rfl _ rfl
  obtain ⟨x0, e0, _, z0⟩ := DataW.trod_string Try.underlying9 k0
  obtain ⟨x1, e1, _, z1⟩ := DataW.trod_string Try.underlying9 k1
  obtain ⟨x2, e2, _⟩ := DataW.trod_bool Try.underlying4 k2
  obtain ⟨x3, e3, _, _⟩ := DataW.trod_int Try.underlying3 k3
  obtain ⟨x4, e4, _, _⟩ := DataW.trod_int Try.underlying3 k4
  obtain ⟨x5, e5, _, _⟩ := DataW.trod_int Try.underlying3 k5
  obtain ⟨x6, e6, _, z6⟩ := DataW.trod_string Try.underlying9 k6
  simp only [List.cons.injEq, and_true] at e0 e1 e2 e3 e4 e5 e6
  subst e0 e1 e2 e3 e4 e5 e6
  exact ⟨x0, x1, x2, x3, x4, x5, x6, rfl, z0, z1, z6⟩
end
end Go.Proofs.Ytjabbbaiboaicaa
