/-
  Layer 9: a guard as the program keeps it; block; Blocked; Clone; New.
-/
import Derived.Test.YtanciemiinbgmaaMiE
import Derived.Deep.RegionLaw
import Derived.Deep.AppendLies
import Derived.Lib.SliceRun
import Derived.Maps.AppendAt
namespace Go.Proofs.Ytanciemiinbgmaa
set_option linter.unusedVariables false
set_option linter.unusedSimpArgs false
open Go.RowKit Go.Maps Pm Mm

theorem vlan_i64 {v : Int} (h : vlanB v = true) : inI64 v := by
  have := of_decide_eq_true h
  unfold inI64
  omega
/-- A guard's two blocks. -/
theorem blk_ne_map {w : World} {b mb n : Nat} {s : Gs} {f : Int → Int} (h : GBlk w b s) (hm : IsMm w mb f n) : b ≠ mb := by
  intro e
  obtain ⟨D, ⟨es, clock, hbk, _⟩, _⟩ := hm.own
  unfold GBlk at h
  rw [e, hbk] at h
  cases h
/-- A row that lies in neither of a guard's blocks. -/
def Away (a : Option Addr) (b mb : Nat) : Prop := ∀ x, a = some x → x.block ≠ b ∧ x.block ≠ mb
theorem row_kept {w w' : World} {a : Option Addr} {len b mb : Nat} {l : List Int} (h : IsRow w a len l) (ha : Away a b mb) (hk : Kept2 b mb w w') : IsRow w' a len l :=
  ⟨h.length, h.bound, fun k n hn => by
    obtain ⟨x, off, e, hx, hc⟩ := h.at_ k n hn
    obtain ⟨h1, h2⟩ := ha _ e
    refine ⟨x, off, e, Nat.lt_of_lt_of_le hx hk.size, ?_⟩
    have := hk.block x hx h1 h2
    simp only [World.cell?] at hc ⊢
    rw [this]
    exact hc⟩

/-- What block leaves in the map. -/
def putF (c : Bool) (f : Int → Int) (v u : Int) : Int → Int := if c then (fun x => if x = v then u else f x) else f

set_option maxRecDepth 20000 in
set_option maxHeartbeats 1000000 in
theorem block_w (b n : Nat) (s : Gs) (f : Int → Int) (l : List Int) (v : Int) (w : World) (h : GBlk w b s) (hm : IsMm w s.mb f n) (hr : IsRow w s.a s.len l) (ha : Away s.a b s.mb) (hv : inI64 v)
    (n1 : 0 ≤ s.now) (n2 : s.now ≤ 1099511627776) (h1 : 1 ≤ s.hello) (h2 : s.hello ≤ 10) (hn : n ≤ 100000) :
    Calls Try.prog 33 #[.pointer (some ⟨b, 0, none⟩), .int .i64 v] w fun e w' => e = .returned (.tuple #[]) ∧ GBlk w' b s ∧ IsMm w' s.mb (putF (hasB ⟨s.t, s.n, l⟩ v) f v (s.now + 3 * s.hello)) (n + 1) ∧ Kept2 b s.mb w w' := by
  have hH := has_any s.t s.n s.a s.len s.cap l v w hr
  obtain ⟨c0, c1, c2, c3, c4, c5, c6, c7, c8, c10, c11⟩ := h.cells
  cases hb : hasB ⟨s.t, s.n, l⟩ v with
  | false =>
    rw [hb] at hH
    have HG := Lib.hid h
    have HM := Lib.hid hm
    clear h hm hr ha hb
    go_enter Try.func33, Try.ntmps33
    go_wp2_with (go_at_call 19; refine hH.mono ?_; clear hH; rintro e w1 ⟨rfl, hb1⟩)
    go_end0
    exact ⟨rfl, HG.out.next hb1, (HM.out.next hb1).mono (Nat.le_succ _), kept2_below hb1⟩
  | true =>
    rw [hb] at hH
    have hne := blk_ne_map h hm
    have HG := Lib.hid h
    have HM := Lib.hid hm
    clear h hm hr ha hb
    go_enter Try.func33, Try.ntmps33
    go_wp2_with (go_at_call 19; refine hH.mono ?_; clear hH; rintro e w1 ⟨rfl, hb1⟩)
    have G1 := HG.out.next hb1
    have M1 := HM.out.next hb1
    have B1 := Lib.hid hb1
    clear hb1 c0 c1 c2 c3 c4 c5 c6 c7 c8 c10 c11
    obtain ⟨c0, c1, c2, c3, c4, c5, c6, c7, c8, c10, c11⟩ := G1.cells
    obtain ⟨y1, hrun, hmp1, hturn1⟩ := (show IsMm w1.drew s.mb f n from M1.same rfl).store hv (s.now + 3 * s.hello) hn
    have HG1 := Lib.hid G1
    have hlt := G1.lt
    clear G1 M1
    go_region
    all_goals go_end0
    all_goals (
      have kt := kept2_turned (tb := b) hturn1
      refine ⟨rfl, (show GBlk w1.drew b s from HG1.out).same (mapTurned_other hturn1 hlt hne), ?_, (kept2_below (B1.out.drew)).trans kt⟩
      unfold putF
      rw [if_pos rfl]
      exact hmp1)

/-- A guard as the program keeps it. -/
structure IsG (w : World) (b mb : Nat) (a : Option Addr) (len cap : Nat) (g : Gd) : Prop where
  blk : GBlk w b ⟨g.po.trunk, g.po.native, a, len, cap, g.hello, g.now, mb, g.many, if g.many = 0 then 0 else 1, 0, g.first, g.told⟩
  row : IsRow w a len g.po.allowed
  away : Away a b mb
  map : ∃ f, IsMm w mb f (2 * g.many) ∧ Says g f
  ok : GOk g
theorem IsG.next {w w' : World} {b mb : Nat} {a : Option Addr} {len cap : Nat} {g : Gd} (h : IsG w b mb a len cap g) (hb : Below w.heap.size w w') : IsG w' b mb a len cap g :=
  ⟨h.blk.next hb, h.row.next hb, h.away, by obtain ⟨f, h1, h2⟩ := h.map; exact ⟨f, h1.next hb, h2⟩, h.ok⟩
theorem IsG.ne {w : World} {b mb : Nat} {a : Option Addr} {len cap : Nat} {g : Gd} (h : IsG w b mb a len cap g) : b ≠ mb := by
  obtain ⟨f, h1, _⟩ := h.map
  exact blk_ne_map h.blk h1
theorem IsG.mlt {w : World} {b mb : Nat} {a : Option Addr} {len cap : Nat} {g : Gd} (h : IsG w b mb a len cap g) : mb < w.heap.size := by
  obtain ⟨f, h1, _⟩ := h.map
  exact h1.lt
theorem at_max (g : Gd) (t : Int) (h : timeB t = true) : (atG g t).now = if g.now < t then t else g.now := by
  rw [at_now]
  by_cases k : g.now < t
  · rw [if_pos ⟨h, k⟩, if_pos k]
  · rw [if_neg (fun e => k e.2), if_neg k]
/-- Behind goOn. -/
theorem IsG.gone {w : World} {b mb : Nat} {a : Option Addr} {len cap : Nat} {g : Gd} (h : IsG w b mb a len cap g) {t : Int} (ht : timeB t = true) :
    IsG (w.setCell ⟨b, 4, none⟩ (.int .i64 (if g.now < t then t else g.now))) b mb a len cap (atG g t) := by
  have hk := kept2_set (tb := b) (mb := mb) w 4 (.int .i64 (if g.now < t then t else g.now))
  have hne := h.ne
  refine ⟨?_, ?_, h.away, ?_, at_ok h.ok t⟩
  · rw [at_po, at_hello, at_many, at_first, at_told, at_max g t ht]
    exact h.blk.now_ _
  · rw [at_po]
    exact row_kept h.row h.away hk
  · obtain ⟨f, h1, h2⟩ := h.map
    refine ⟨f, ?_, says_at h2 t⟩
    rw [at_many]
    exact h1.same (Below.heap_setCell w ⟨b, 4, none⟩ _ mb (Ne.symm hne))

theorem goOn_w (b mb : Nat) (a : Option Addr) (len cap : Nat) (g : Gd) (t : Int) (w : World) (h : IsG w b mb a len cap g) (ht : timeB t = true) :
    Calls Try.prog 28 #[.pointer (some ⟨b, 0, none⟩), .int .i64 t] w fun e w' => e = .returned (.tuple #[]) ∧ IsG w' b mb a len cap (atG g t) ∧ Kept2 b mb w w' := by
  refine (goOn_any b _ t w h.blk).mono ?_
  rintro e w' ⟨rfl, rfl⟩
  exact ⟨rfl, h.gone ht, kept2_set w 4 _⟩
theorem blocks_w (b mb : Nat) (a : Option Addr) (len cap : Nat) (g : Gd) (v : Int) (w : World) (h : IsG w b mb a len cap g) (hv : inI64 v) :
    Calls Try.prog 34 #[.pointer (some ⟨b, 0, none⟩), .int .i64 v] w fun e w' => e = .returned (.bool (blockedG g v)) ∧ Below w.heap.size w w' := by
  obtain ⟨f, h1, h2⟩ := h.map
  refine (blocks_any b _ _ f v w h.blk h1 hv).mono ?_
  rintro e w' ⟨rfl, hb⟩
  exact ⟨ret_bool (says_blocked h2 v).symm, hb⟩
theorem agrees_w (b mb : Nat) (a : Option Addr) (len cap : Nat) (g : Gd) (r d : Int) (w : World) (h : IsG w b mb a len cap g) :
    Calls Try.prog 29 #[.pointer (some ⟨b, 0, none⟩), .int .i64 r, .int .i64 d] w fun e w' => e = .returned (.bool (decide (g.po.trunk = true ∧ r = d))) ∧ w = w' :=
  agrees_any b _ r d w h.blk
theorem heard_w (b mb : Nat) (a : Option Addr) (len cap : Nat) (g : Gd) (w : World) (h : IsG w b mb a len cap g) :
    Calls Try.prog 17 #[.pointer (some ⟨b, 0, none⟩)] w fun e w' => e = .returned (.int .i64 g.many) ∧ w = w' :=
  heard_any b _ w h.blk
theorem first_w (b mb : Nat) (a : Option Addr) (len cap : Nat) (g : Gd) (w : World) (h : IsG w b mb a len cap g) :
    Calls Try.prog 16 #[.pointer (some ⟨b, 0, none⟩)] w fun e w' => e = .returned (.tuple #[.int .i64 g.first, .int .i64 g.told, .bool (decide (0 < (g.many : Int)))]) ∧ Below w.heap.size w w' :=
  first_any b _ w h.blk

set_option maxHeartbeats 1000000 in
theorem blocked_w (b mb : Nat) (a : Option Addr) (len cap : Nat) (g : Gd) (v t : Int) (w : World) (h : IsG w b mb a len cap g) (hv : inI64 v) :
    Calls Try.prog 11 #[.pointer (some ⟨b, 0, none⟩), .int .i64 v, .int .i64 t] w fun e w' => e = .returned (.bool (timeB t && blockedG (atG g t) v)) ∧ IsG w' b mb a len cap (atG g t) ∧ Kept2 b mb w w' := by
  cases ht : timeB t with
  | false =>
    rw [at_not ht]
    have HT := Lib.hid ht
    have HG := Lib.hid h
    clear h ht
    go_enter Try.func11, Try.ntmps11
    go_wp2_with (go_at_call 27; refine (mtime_any _ _).mono ?_; rintro e w' ⟨rfl, rfl⟩; rw [HT.out])
    go_ret
    exact ⟨rfl, HG.out, Kept2.refl _ _ _⟩
  | true =>
    have hG := goOn_w b mb a len cap g t w h ht
    obtain ⟨G, hGd⟩ : ∃ G, atG g t = G := ⟨_, rfl⟩
    rw [hGd] at hG ⊢
    have HT := Lib.hid ht
    clear h ht hGd
    obtain ⟨B, hB⟩ : ∃ B, blockedG G v = B := ⟨_, rfl⟩
    have HB := Lib.hid (fun w1 (h1 : IsG w1 b mb a len cap G) => hB ▸ blocks_w b mb a len cap G v w1 h1 hv)
    rw [hB]
    clear hB
    go_enter Try.func11, Try.ntmps11
    go_wp2_with (first
      | (go_at_call 27; refine (mtime_any _ _).mono ?_; rintro e w' ⟨rfl, rfl⟩; rw [HT.out])
      | (go_at_call 28; refine hG.mono ?_; clear hG; rintro e w1 ⟨rfl, h1, k1⟩; have H1 := Lib.hid h1; have K1 := Lib.hid k1; clear h1 k1)
      | (go_at_call 34; with_reducible refine (HB.out w1 H1.out).mono ?_; rintro e w2 ⟨rfl, hb2⟩))
    go_ret
    exact ⟨by simp, H1.out.next hb2, K1.out.trans (kept2_below hb2)⟩

/-! ### Clone, New -/
theorem infoI : (Try.prog.info? 3).map (fun i => (i.zero, i.size, i.bytes)) = some (some (.int .i64 0), 1, 8) := by kernel_rfl
/-- A row that the call has made. -/
theorem row_owned {w : World} {base n : Nat} {v : Value} {l : List Int} (h : w.ownsRow base 3 1 v n (l.map encZ)) (hl : l.length = n) (hn : n ≤ maxLen) :
    ∃ a cap, v = .slice a n cap ∧ IsRow w a n l ∧ n ≤ cap ∧ ∀ x, a = some x → base ≤ x.block ∧ x.block < w.heap.size := by
  rcases h.2 with ⟨rfl, h0⟩ | ⟨g, cap, cur, rfl, hbg, hg, hnc, hcm, hcs, htake⟩
  · subst h0
    obtain rfl : l = [] := List.eq_nil_of_length_eq_zero hl
    exact ⟨none, 0, rfl, row_none w none, Nat.le_refl _, fun x e => by cases e⟩
  · have hgl : g < w.heap.size := (Array.getElem?_eq_some_iff.1 hg).1
    refine ⟨some ⟨g, 0, none⟩, cap, rfl, ⟨hl, hn, fun k m hk => ⟨g, 0, rfl, hgl, ?_⟩⟩, hnc, fun x e => by cases e; exact ⟨hbg, hgl⟩⟩
    have hkl : k < l.length := (List.getElem?_eq_some_iff.1 hk).1
    have h1 : (cur.toList.take (n * 1))[k]? = (l.map encZ)[k]? := by rw [htake]
    rw [List.getElem?_take_of_lt (by omega)] at h1
    simp only [World.cell?, hg]
    rw [Array.getElem?_toList] at h1
    rw [show (0 + k : Nat) = k by omega]
    simp only [Option.isSome_none, Bool.false_eq_true, if_false]
    rw [h1, List.getElem?_map, hk]
    rfl

/-- A row that lies in new memory. -/
def NewRow (w w' : World) (a : Option Addr) : Prop := ∀ x, a = some x → w.heap.size ≤ x.block ∧ x.block < w'.heap.size
set_option maxRecDepth 20000 in
set_option maxHeartbeats 1000000 in
theorem clone_w (a : Option Addr) (len cap : Nat) (l : List Int) (w : World) (h : IsRow w a len l) (hl : len ≤ 1000) :
    Calls Try.prog 21 #[.slice a len cap] w fun e w' => ∃ a' cap', e = .returned (.slice a' len cap') ∧ IsRow w' a' len l ∧ NewRow w w' a' ∧ Below w.heap.size w w' := by
  cases a with
  | none =>
    have h0 : len = 0 := by
      rcases Nat.eq_zero_or_pos len with e | e
      · exact e
      · obtain ⟨n, hn⟩ := at_some (l := l) (k := 0) (by rw [h.length]; exact e)
        obtain ⟨x, off, e', _⟩ := h.at_ 0 n hn
        cases e'
    subst h0
    obtain rfl : l = [] := List.eq_nil_of_length_eq_zero h.length
    have hq : ∀ w, Sem.run Try.prog (binOp .eql 22 (.slice none 0 cap) (.slice none 0 0)) w = .ok (.bool true) w := fun w => Lib.run_eql_slice_nil w 22 3 none 0 cap 0 0 Try.underlying22
    clear h
    go_enter Try.func21, Try.ntmps21
    go_wp2
    all_goals go_ret
    all_goals first | exact ⟨none, 0, rfl, row_none _ _, fun x e => (by cases e), Below.refl _ _⟩ | exact ⟨none, ⟨0, rfl⟩, row_none _ _, fun x e => (by cases e), Below.refl _ _⟩
  | some ad =>
    obtain ⟨i0, hi, hz0, hz1, hz2⟩ := info_parts infoI
    have hll := h.length
    have O := World.ownsRow_lit (base := w.heap.size) (e := 3) (size := 1) w #[] 0 (Nat.le_refl _) (Nat.zero_le _) rfl
    have hW := below_box w (.cells #[] 3)
    have h1 := h.next hW
    have hnews : ∀ j u, (l.map encZ)[j]? = some u → (w.alloc (.cells #[] 3)).cell? (ad.add j) = some u := by
      intro j u hj
      rw [List.getElem?_map, Option.map_eq_some_iff] at hj
      obtain ⟨m, hm, rfl⟩ := hj
      obtain ⟨x, off, e, _, hc⟩ := h1.at_ j m hm
      cases e
      rw [Addr.add_lit]
      exact hc
    have hq : ∀ w, Sem.run Try.prog (binOp .eql 22 (.slice (some ad) len cap) (.slice none 0 0)) w = .ok (.bool false) w := fun w => Lib.run_eql_slice_nil w 22 3 (some ad) len cap 0 0 Try.underlying22
    clear h h1
    go_enter Try.func21, Try.ntmps21
    go_wp2_with (at_builtin; refine wpList_append_own_at _ (by rfl) _ _ _ (by rfl) w.heap.size 3 i0 (.int .i64 0) 1 8 Try.underlying22 hi hz0 hz1 hz2 rfl (by decide) _ 0 _ (by rfl) O ad len cap (l.map encZ) (by rfl) (by simp [hll]) hnews (by intro u hu; obtain ⟨m, _, rfl⟩ := List.mem_map.1 hu; rfl) (by unfold maxLen; omega) (by omega) (by simp) ?_; intro v' w1 hown hgrow hnil hat)
    obtain ⟨a', cap', rfl, hrow, hcap, hnew⟩ := row_owned (l := l) (by simpa using hown) (by rw [hll]) (by unfold maxLen; omega)
    have hB : Below w.heap.size w w1 := hW.grown hgrow (by simp) (fun j e => by simp [Value.ownBlock] at e; omega)
    go_ret
    first | exact ⟨a', cap', rfl, hrow, hnew, hB⟩ | exact ⟨a', ⟨cap', rfl⟩, hrow, hnew, hB⟩
end Go.Proofs.Ytanciemiinbgmaa
