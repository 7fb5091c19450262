/-
  The document's own functions of layer 7: asked, place.
-/
import Derived.Test.YtkpfdaomhkcokaaFdJ
import Derived.Deep.RegionLaw
import Derived.Deep.AppendLies
import Derived.Deep.CutBlock
namespace Go.Proofs.Ytkpfdaomhkcokaa
set_option linter.unusedVariables false
set_option linter.unusedSimpArgs false
open Go.RowKit Go.Maps Dm

abbrev rv (room : Int) (a : Option Addr) (n cap : Nat) (learned : Int) : Value := .agg #[.int .i64 room, .slice a n cap, .int .i64 learned]
/-- Block b is a table of the document's. -/
def RBlk (w : World) (b : Nat) (room : Int) (a : Option Addr) (n cap : Nat) (learned : Int) : Prop := w.heap[b]? = some (.cells #[.int .i64 room, .slice a n cap, .int .i64 learned] 31 (0, 0))
theorem RBlk.lt {w : World} {b : Nat} {room : Int} {a : Option Addr} {n cap : Nat} {lr : Int} (h : RBlk w b room a n cap lr) : b < w.heap.size := (Array.getElem?_eq_some_iff.1 h).1
theorem RBlk.below {w w' : World} {b B : Nat} {room : Int} {a : Option Addr} {n cap : Nat} {lr : Int} (h : RBlk w b room a n cap lr) (hb : Below B w w') (hB : b < B) : RBlk w' b room a n cap lr := (hb.block b hB).trans h
theorem RBlk.next {w w' : World} {b : Nat} {room : Int} {a : Option Addr} {n cap : Nat} {lr : Int} (h : RBlk w b room a n cap lr) (hb : Below w.heap.size w w') : RBlk w' b room a n cap lr := h.below hb h.lt
theorem rblk_new (w : World) (room : Int) (a : Option Addr) (n cap : Nat) (lr : Int) : RBlk (w.alloc (.cells #[.int .i64 room, .slice a n cap, .int .i64 lr] 31)) w.heap.size room a n cap lr := heap_alloc_new w _
theorem RBlk.cells {w : World} {b : Nat} {room : Int} {a : Option Addr} {n cap : Nat} {lr : Int} (h : RBlk w b room a n cap lr) :
    w.cell? ⟨b, 0, none⟩ = some (.int .i64 room) ∧ w.cell? ⟨b, 1, none⟩ = some (.slice a n cap) ∧ w.cell? ⟨b, 2, none⟩ = some (.int .i64 lr) := by
  unfold RBlk at h
  refine ⟨?_, ?_, ?_⟩ <;> simp [World.cell?, h]
theorem RBlk.free {w : World} {b : Nat} {room : Int} {a : Option Addr} {n cap : Nat} {lr : Int} (h : RBlk w b room a n cap lr) (j : Nat) : w.frozen? ⟨b, j, none⟩ = false := by
  unfold RBlk at h
  simp [World.frozen?, h]
theorem RBlk.set1 {w : World} {b : Nat} {room : Int} {a : Option Addr} {n cap : Nat} {lr : Int} (h : RBlk w b room a n cap lr) (a' : Option Addr) (n' cap' : Nat) : RBlk (w.setCell ⟨b, 1, none⟩ (.slice a' n' cap')) b room a' n' cap' lr := by
  unfold RBlk at h ⊢
  obtain ⟨hlt, hk⟩ := Array.getElem?_eq_some_iff.1 h
  show (w.heap.modify b _)[b]? = _
  rw [Array.getElem?_eq_getElem (by rw [Array.size_modify]; exact hlt), Array.getElem_modify_self, hk]
  rfl
theorem RBlk.set2 {w : World} {b : Nat} {room : Int} {a : Option Addr} {n cap : Nat} {lr : Int} (h : RBlk w b room a n cap lr) (x : Int) : RBlk (w.setCell ⟨b, 2, none⟩ (.int .i64 x)) b room a n cap x := by
  unfold RBlk at h ⊢
  obtain ⟨hlt, hk⟩ := Array.getElem?_eq_some_iff.1 h
  show (w.heap.modify b _)[b]? = _
  rw [Array.getElem?_eq_getElem (by rw [Array.size_modify]; exact hlt), Array.getElem_modify_self, hk]
  rfl

theorem grp_at (m : ByteArray) (h : 0 < m.size) : grp6 m = decide (m[0].toNat % 2 = 1) := by
  unfold grp6
  have h1 : 0 < m.data.size := h
  have : m.data.getD 0 0 = m.data[0] := by unfold Array.getD; rw [dif_pos h1]; rfl
  rw [this]
  rfl
set_option maxHeartbeats 1000000 in
theorem asked_any (v : Int) (m : ByteArray) (p now : Int) (w : World) (hm : m.size ≤ maxLen) :
    Calls Try.prog 40 #[.int .i64 v, .string m, .int .i64 p, .int .i64 now] w fun e w' => e = .returned (.int .i64 (askedR v m p now)) ∧ w = w' := by
  unfold maxLen at hm
  go_enter Try.func40, Try.ntmps40
  go_wp2
  all_goals go_ret
  all_goals refine ⟨ret_int ?_, rfl⟩
  all_goals unfold askedR
  all_goals first
    | (rw [if_pos (by omega)]; done)
    | (rw [if_neg (by omega), if_pos (.inl (by omega))]; done)
    | (have h0 : 0 < m.size := by omega
       have hg := grp_at m h0
       have h2 : ((m[0].toNat : Int) % 2 == 1) = true := by assumption
       have h3 := eq_of_beq h2
       rw [if_neg (by omega), if_pos (.inr (by rw [hg]; exact decide_eq_true (by omega)))]
       done)
    | (have h0 : 0 < m.size := by omega
       have hg := grp_at m h0
       have h2 : ((m[0].toNat : Int) % 2 == 1) = false := by assumption
       have h3 := beq_eq_false_iff_ne.1 h2
       have h4 : grp6 m = false := by rw [hg]; exact decide_eq_false (by omega)
       rw [if_neg (by omega), if_neg (by rw [h4]; simp; omega)]
       done)

theorem place_hit {x : En} {r : List En} {k : Ky} (h : x.key = k) : placeR (x :: r) k = (0, true) := by rw [placeR.eq_def]; simp only; rw [if_pos h]
theorem place_less {x : En} {r : List En} {k : Ky} (h : k.lt x.key) : placeR (x :: r) k = (0, false) := by
  rw [placeR.eq_def]
  simp only
  rw [if_neg (fun e => lt_ne h e.symm), if_pos h]
theorem place_more {x : En} {r : List En} {k : Ky} (h : ¬ x.key = k) (h2 : ¬ k.lt x.key) : placeR (x :: r) k = ((placeR r k).1 + 1, (placeR r k).2) := by
  rw [placeR.eq_def]
  simp only
  rw [if_neg h, if_neg h2]
theorem bytesLess_eq (a b : List UInt8) : Op.bytesLess a b = decide (a < b) := by
  induction a generalizing b with
  | nil => cases b <;> simp [Op.bytesLess]
  | cons x a ih =>
    cases b with
    | nil => simp [Op.bytesLess]
    | cons y b =>
      simp only [Op.bytesLess, ih, List.cons_lt_cons_iff]
      rw [Bool.eq_iff_iff]
      simp

set_option maxHeartbeats 2000000 in
theorem place_w (room : Int) (a : Option Addr) (cap : Nat) (lr : Int) (l : List En) (v : Int) (m : ByteArray) (w : World) (hr : Row w a l) :
    Calls Try.prog 32 #[rv room a l.length cap lr, .int .i64 v, .string m] w fun e w' => e = .returned (.tuple #[.int .i64 (placeR l ⟨v, m⟩).1, .bool (placeR l ⟨v, m⟩).2]) ∧ Grown w w' := by
  obtain ⟨n, hn⟩ : ∃ n, l.length = n := ⟨_, rfl⟩
  have HN := Lib.hid hn
  have hn1 : n ≤ 1000 := by have := hr.few; omega
  rw [hn]
  clear hn
  obtain ⟨W, hW⟩ : ∃ W, W = w.alloc (.cells #[.int .i64 room, .slice a n cap, .int .i64 lr] 31) := ⟨_, rfl⟩
  have hG : Grown w W := by rw [hW]; exact (Grown.refl w).alloc _
  have kW : RBlk W w.heap.size room a n cap lr := by rw [hW]; exact rblk_new _ _ _ _ _ _
  have HR := Lib.hid (hr.next hG.below)
  obtain ⟨b, hb⟩ : ∃ b, b = w.heap.size := ⟨_, rfl⟩
  rw [← hb] at kW
  clear hr
  go_enter Try.func32, Try.ntmps32
  go_wp2_with fail
  rw [← hW, ← hb]
  clear hW hb
  go_loopw [8] (fun i wr => ∃ j : Nat, j ≤ n ∧ i = .int .i64 (j : Nat) ∧ placeR l ⟨v, m⟩ = (j + (placeR (l.drop j) ⟨v, m⟩).1, (placeR (l.drop j) ⟨v, m⟩).2) ∧ Grown W wr) (fun i _ => n - (intOf i).toNat)
  case atStart => exact ⟨0, Nat.zero_le _, rfl, by simp, Grown.refl _⟩
  case round =>
    obtain ⟨j, hj, rfl, hp, hGr⟩ := hrel
    have HP := Lib.hid hp
    clear hp
    obtain ⟨k0, k1, k2⟩ := (kW.next hGr.below).cells
    by_cases hjn : j < n
    · obtain ⟨⟨xv, xm, xp, xh, xf⟩, hx⟩ := at_some (l := l) (k := j) (by rw [HN.out]; exact hjn)
      obtain ⟨g, o, rfl, hgl, q0, q1, q2, q3, q4⟩ := (HR.out.next hGr.below).at_ j _ hx
      simp only at q0 q1 q2 q3 q4
      have HX := Lib.hid hx
      clear hx
      have hdj : l.drop j = ⟨xv, xm, xp, xh, xf⟩ :: l.drop (j + 1) := by
        obtain ⟨hjl, hx'⟩ := List.getElem?_eq_some_iff.1 HX.out
        rw [List.drop_eq_getElem_cons hjl, hx']
      have HDJ := Lib.hid hdj
      clear hdj
      by_cases hv : xv = v
      · subst hv
        by_cases hm : xm = m
        · subst hm
          have HK := Lib.hid (place_hit (x := ⟨xv, xm, xp, xh, xf⟩) (r := l.drop (j + 1)) (k := ⟨xv, xm⟩) rfl)
          go_wp2
          go_ret2
          have hp := HP.out
          rw [HDJ.out, HK.out] at hp
          rw [hp]
          exact ⟨rfl, hG.trans (hGr.alloc _)⟩
        · have he : (xm.toList == m.toList) = false := by
            refine beq_eq_false_iff_ne.2 fun e => hm (mac_eq e)
          by_cases hlt : m.toList < xm.toList
          · have hb : Op.bytesLess xm.toList m.toList = false := by rw [bytesLess_eq]; exact decide_eq_false (fun h => List.lt_irrefl _ (List.lt_trans h hlt))
            have hkl : Ky.lt ⟨xv, m⟩ (En.key ⟨xv, xm, xp, xh, xf⟩) := .inr ⟨rfl, hlt⟩
            have HK := Lib.hid (place_less (r := l.drop (j + 1)) hkl)
            clear hkl hlt
            go_wp2
            go_ret2
            have hp := HP.out
            rw [HDJ.out, HK.out] at hp
            rw [hp]
            exact ⟨rfl, hG.trans (hGr.alloc _)⟩
          · have hkk : ¬ En.key ⟨xv, xm, xp, xh, xf⟩ = ⟨xv, m⟩ := fun e => hm (congrArg Ky.mac e)
            have hnl : ¬ Ky.lt ⟨xv, m⟩ (En.key ⟨xv, xm, xp, xh, xf⟩) := fun h => by
              rcases h with h | ⟨_, h⟩
              · exact absurd h (Int.lt_irrefl _)
              · exact hlt h
            have hb : Op.bytesLess xm.toList m.toList = true := by
              rw [bytesLess_eq]
              refine decide_eq_true ?_
              have := lt_tri (fun e => hkk e.symm) hnl
              rcases this with h | ⟨_, h⟩
              · exact absurd h (Int.lt_irrefl _)
              · exact h
            have HK := Lib.hid (place_more (r := l.drop (j + 1)) hkk hnl)
            clear hkk hnl hlt
            go_wp2
            refine ⟨⟨j + 1, by omega, by go_num, ?_, hGr.alloc _⟩, by simp [intOf]; omega⟩
            have hp := HP.out
            rw [HDJ.out, HK.out] at hp
            rw [hp]
            simp only [Prod.mk.injEq, and_true]
            omega
      · by_cases hgt : v < xv
        · have hkl : Ky.lt ⟨v, m⟩ (En.key ⟨xv, xm, xp, xh, xf⟩) := .inl hgt
          have HK := Lib.hid (place_less (r := l.drop (j + 1)) hkl)
          clear hkl
          go_wp2
          go_ret2
          have hp := HP.out
          rw [HDJ.out, HK.out] at hp
          rw [hp]
          exact ⟨rfl, hG.trans (hGr.alloc _)⟩
        · have hkk : ¬ En.key ⟨xv, xm, xp, xh, xf⟩ = ⟨v, m⟩ := fun e => hv (congrArg Ky.vlan e)
          have hnl : ¬ Ky.lt ⟨v, m⟩ (En.key ⟨xv, xm, xp, xh, xf⟩) := fun h => by
            rcases h with h | ⟨h, _⟩
            · exact hgt h
            · exact hv h.symm
          have HK := Lib.hid (place_more (r := l.drop (j + 1)) hkk hnl)
          clear hkk hnl
          have hle : xv ≤ v := by omega
          go_wp2
          refine ⟨⟨j + 1, by omega, by go_num, ?_, hGr.alloc _⟩, by simp [intOf]; omega⟩
          have hp := HP.out
          rw [HDJ.out, HK.out] at hp
          rw [hp]
          simp only [Prod.mk.injEq, and_true]
          omega
    · obtain rfl : j = n := by omega
      go_wp2
      go_ret2
      have hp := HP.out
      have hn := HN.out
      have hd : l.drop j = [] := List.drop_eq_nil_of_le (by omega)
      rw [hd] at hp
      rw [hp]
      exact ⟨by simp [placeR], hG.trans hGr⟩
end Go.Proofs.Ytkpfdaomhkcokaa
