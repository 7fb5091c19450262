/-
  Layer 7's List: the sort, slices.SortedFunc, List; a table behind a pointer.
-/
import Derived.Test.YtkpfdaomhkcokaaFdC
import Derived.Shelf.SlSortCmp.NoneTotal
namespace Go.Proofs.Ytkpfdaomhkcokaa
set_option linter.unusedVariables false
set_option linter.unusedSimpArgs false
open Go.RowKit Go.Shelf Dm

instance : Inhabited En := ⟨zeroE⟩
theorem ltE (x y : En) : Go.Proofs.ltOf cfE x y = decide (x.key.lt y.key) := by
  unfold Go.Proofs.ltOf
  exact decide_eq_decide.2 (cfE_lt x y)
theorem swoE : Go.Sort.SWO (Go.Proofs.ltOf cfE) where
  irrefl x := by rw [ltE]; simp [lt_irrefl]
  trans x y z h1 h2 := by
    rw [ltE] at *
    simp only [decide_eq_true_eq] at *
    exact lt_trans h1 h2
  ntrans x y z h1 h2 := by
    rw [ltE] at *
    simp only [decide_eq_false_iff_not] at *
    intro h
    by_cases e : x.key = y.key
    · rw [e] at h; exact h2 h
    · have hyx := lt_tri e h1
      by_cases e2 : y.key = z.key
      · rw [e2] at hyx; exact lt_not hyx h
      · exact lt_not (lt_trans (lt_tri e2 h2) hyx) h
theorem cmpLays (blk off size : Nat) (w : World) : Go.Proofs.CmpLays Try.prog 27 #[] cellsOf 5 cfE blk off size w :=
  fun _ _ _ _ x y => order_any x y _

/-- A row of entries. -/
structure Row (w : World) (a : Option Addr) (l : List En) : Prop where
  few : l.length ≤ 1000
  at_ : ∀ j x, l[j]? = some x → ∃ g o : Nat, a = some ⟨g, o, none⟩ ∧ g < w.heap.size ∧ At5 w g (o + j * 5) x.vlan x.mac x.port x.heard x.fixed
theorem At5.below {w w' : World} {b o B : Nat} {v : Int} {m : ByteArray} {p h : Int} {f : Bool} (k : At5 w b o v m p h f) (hb : Below B w w') (hB : b < B) : At5 w' b o v m p h f := by
  obtain ⟨k0, k1, k2, k3, k4⟩ := k
  exact ⟨(hb.cell (p := ⟨b, o, none⟩) hB).trans k0, (hb.cell (p := ⟨b, o + 1, none⟩) hB).trans k1, (hb.cell (p := ⟨b, o + 2, none⟩) hB).trans k2, (hb.cell (p := ⟨b, o + 3, none⟩) hB).trans k3, (hb.cell (p := ⟨b, o + 4, none⟩) hB).trans k4⟩
theorem Row.next {w w' : World} {a : Option Addr} {l : List En} (h : Row w a l) (hb : Below w.heap.size w w') : Row w' a l :=
  ⟨h.few, fun j x hx => by
    obtain ⟨g, o, e, hg, k⟩ := h.at_ j x hx
    exact ⟨g, o, e, Nat.lt_of_lt_of_le hg hb.size, k.below hb hg⟩⟩
theorem row_nil (w : World) (a : Option Addr) : Row w a [] := ⟨by simp, fun j x h => by simp at h⟩
/-- .. that the call has made, in a block from n on, of which nothing is frozen. -/
def Fresh (w : World) (n : Nat) (a : Option Addr) (k : Nat) : Prop := ∀ g, a = some g → g.off = 0 ∧ g.spot = none ∧ n ≤ g.block ∧ ∀ j, j < k * 5 → w.frozen? ⟨g.block, j, none⟩ = false

theorem cells_at {l : List En} {j : Nat} {x : En} (h : l[j]? = some x) (c : Nat) (hc : c < 5) : (cellsE l)[j * 5 + c]? = (cellsOf x)[c]? := by
  induction l generalizing j with
  | nil => simp at h
  | cons y l ih =>
    have e : cellsE (y :: l) = cellsOf y ++ cellsE l := rfl
    have ly : (cellsOf y).length = 5 := rfl
    rw [e]
    cases j with
    | zero =>
      simp at h
      subst h
      rw [List.getElem?_append_left (by omega)]
      congr 1; omega
    | succ j =>
      rw [List.getElem?_append_right (by omega), ly]
      have := ih (j := j) (by simpa using h)
      rw [← this]
      congr 1; omega
theorem row_owned {e : TypeId} {w : World} {base : Nat} {v : Value} {l : List En} (h : w.ownsRow base e 5 v l.length (cellsE l)) (hf : l.length ≤ 1000) :
    ∃ a cap, v = .slice a l.length cap ∧ l.length ≤ cap ∧ Row w a l ∧ Fresh w base a l.length := by
  rcases h.2 with ⟨rfl, hn⟩ | ⟨g, cap, cur, rfl, hbg, hg, hnc, hcm, hcs, htake⟩
  · have : l = [] := List.eq_nil_of_length_eq_zero hn
    subst this
    exact ⟨none, 0, rfl, Nat.le_refl _, row_nil w none, fun g e => by cases e⟩
  · have hgl : g < w.heap.size := (Array.getElem?_eq_some_iff.1 hg).1
    refine ⟨some ⟨g, 0, none⟩, cap, rfl, hnc, ⟨hf, fun j x hx => ?_⟩, fun g' e => ?_⟩
    · have hjl : j < l.length := (List.getElem?_eq_some_iff.1 hx).1
      have key : ∀ c, c < 5 → w.cell? ⟨g, 0 + j * 5 + c, none⟩ = (cellsOf x)[c]? := fun c hc => by
        have h1 : (cur.toList.take (l.length * 5))[j * 5 + c]? = (cellsOf x)[c]? := by rw [htake]; exact cells_at hx c hc
        rw [List.getElem?_take_of_lt (by omega)] at h1
        simp only [World.cell?, hg]
        rw [← h1, Array.getElem?_toList, Nat.zero_add]
        rfl
      refine ⟨g, 0, rfl, hgl, ?_, ?_, ?_, ?_, ?_⟩
      · exact key 0 (by omega)
      · exact key 1 (by omega)
      · exact key 2 (by omega)
      · exact key 3 (by omega)
      · exact key 4 (by omega)
    · cases e
      refine ⟨rfl, rfl, hbg, fun j _ => ?_⟩
      simp [World.frozen?, hg]

/-! ### The sort -/
theorem at5_of_holds {w : World} {g : Nat} {d : Array En} (h : Go.Sort.HoldsK cellsOf 5 w g 0 d) {j : Nat} {x : En} (hx : d[j]? = some x) :
    At5 w g (0 + j * 5) x.vlan x.mac x.port x.heard x.fixed ∧ ∀ c, c < 5 → w.frozen? ⟨g, j * 5 + c, none⟩ = false := by
  obtain ⟨hj, hx'⟩ := Array.getElem?_eq_some_iff.1 hx
  have hb : d[j]! = x := by rw [getElem!_pos d j hj]; exact hx'
  have key : ∀ c, c < 5 → w.cell? ⟨g, 0 + j * 5 + c, none⟩ = some (cellsOf x)[c]! ∧ w.frozen? ⟨g, j * 5 + c, none⟩ = false := fun c hc => by
    have := Go.Sort.HoldsK.cell h hj hc
    rw [hb] at this
    exact ⟨this.1, by have h2 := this.2; rw [Nat.zero_add] at h2; exact h2⟩
  exact ⟨⟨(key 0 (by omega)).1, (key 1 (by omega)).1, (key 2 (by omega)).1, (key 3 (by omega)).1, (key 4 (by omega)).1⟩, fun c hc => (key c hc).2⟩
theorem holds_of_row {w : World} {g cap n : Nat} {l : List En} (h : Row w (some ⟨g, 0, none⟩) l) (hf : Fresh w n (some ⟨g, 0, none⟩) l.length) : Go.Sort.HoldsK cellsOf 5 w g 0 l.toArray := by
  intro t ht
  rw [Go.Sort.size_flatK] at ht
  simp at ht
  rw [Go.Sort.get_flatK _ _ _ _ (by simpa using ht)]
  have hj : t / 5 < l.length := by omega
  obtain ⟨x, hx⟩ : ∃ x, l[t / 5]? = some x := ⟨l[t / 5]'hj, List.getElem?_eq_getElem hj⟩
  obtain ⟨g', o', e, hg, k0, k1, k2, k3, k4⟩ := h.at_ _ _ hx
  obtain ⟨rfl, rfl⟩ : g = g' ∧ 0 = o' := by cases e; exact ⟨rfl, rfl⟩
  have hb : l.toArray[t / 5]! = x := by
    have : l.toArray[t / 5]? = some x := by simpa using hx
    obtain ⟨h1, h2⟩ := Array.getElem?_eq_some_iff.1 this
    rw [getElem!_pos l.toArray (t / 5) h1]; exact h2
  rw [hb]
  have hfr : w.frozen? ⟨g, t, none⟩ = false := (hf ⟨g, 0, none⟩ rfl).2.2.2 t (by omega)
  refine ⟨?_, by simpa using hfr⟩
  have ht5 : 0 + t / 5 * 5 + t % 5 = 0 + t := by omega
  have h5 : t % 5 < 5 := Nat.mod_lt _ (by omega)
  rw [← ht5]
  generalize t % 5 = c at h5 ⊢
  match c, h5 with
  | 0, _ => exact k0
  | 1, _ => exact k1
  | 2, _ => exact k2
  | 3, _ => exact k3
  | 4, _ => exact k4
theorem sorted_perm {l m : List En} (hl : Sorted l) (hm : Sorted m) (hp : l.Perm m) : l = m := by
  refine sorted_ext hl hm fun k => ?_
  cases hf : findE l k with
  | some x =>
    obtain ⟨h1, h2⟩ := find_mem hf
    rw [← h2, mem_find hm (hp.mem_iff.1 h1)]
  | none =>
    refine (find_none fun y hy e => ?_).symm
    have := mem_find hl (hp.mem_iff.2 hy)
    rw [e, hf] at this; cases this
theorem sort_out {d d' : Array En} {L : List En} (hL : Sorted L) (hd : d.toList.Perm L) (hp : Go.Sort.PermIn 0 d.size d d') (hs : Go.Sort.SortedIn (Go.Proofs.ltOf cfE) 0 d.size d') : d'.toList = L := by
  obtain ⟨h1, _, h3⟩ := hp
  have hp' : d'.toList.Perm L := by
    rw [show d'.extract 0 d.size = d' by rw [← h1]; simp, show d.extract 0 d.size = d by simp] at h3
    exact h3.trans hd
  refine sorted_perm ?_ hL hp'
  unfold Sorted
  rw [List.pairwise_iff_getElem]
  intro i j hi hj hij
  have hi' : i < d'.size := by simpa using hi
  have hj' : j < d'.size := by simpa using hj
  have := hs i j (Nat.zero_le _) hij (by omega)
  rw [ltE, getElem!_pos d' i hi', getElem!_pos d' j hj'] at this
  simp only [decide_eq_false_iff_not] at this
  refine lt_tri (fun e => ?_) this
  have hn : d'.toList.Nodup := hp'.nodup_iff.2 (sorted_nodup hL)
  have hx : d'[j] = d'[i] := same_key hL (hp'.mem_iff.1 (by simp)) (hp'.mem_iff.1 (by simp)) e
  have := (List.nodup_iff_pairwise_ne.1 hn)
  rw [List.pairwise_iff_getElem] at this
  exact this i j hi hj hij (by simpa using hx.symm)
theorem grown_sorted {w : World} {g n : Nat} {os : Array Obj} (d : Array En) : w.grownBy (Go.Proofs.sortWorldK cellsOf 5 w g 0 n d os) (some g) := by
  refine ⟨rfl, rfl, rfl, Go.Proofs.size_sortWorldK_c cellsOf 5 w g 0 n d os, fun k hk hne => ?_⟩
  unfold Go.Proofs.sortWorldK
  rw [Go.Sort.heap_grow_old _ _ (by simp [Go.Sort.putRowK, Go.Sort.putRow, Go.Sort.mapBlock, Go.Sort.ahead]; exact hk)]
  have : g ≠ k := fun e => hne (by rw [e])
  simp [Go.Sort.putRowK, Go.Sort.putRow, Go.Sort.mapBlock, Go.Sort.ahead, Array.getElem?_modify, this]
theorem sortFunc_w (v : Value) (xs L : List En) (n : Nat) (w : World) (hn : n ≤ w.heap.size) (hL : Sorted L) (hp : xs.Perm L) (hf : L.length ≤ 1000) (ho : w.ownsRow n 41 5 v xs.length (cellsE xs)) :
    ∃ a cap, v = .slice a L.length cap ∧ L.length ≤ cap ∧ Calls Try.prog 45 #[.slice a L.length cap, .func (.func 27) #[] #[]] w fun e w' => e = .returned (.tuple #[]) ∧ Row w' a L ∧ Fresh w' n a L.length ∧ Below n w w' := by
  have hlen := hp.length_eq
  obtain ⟨a, cap, rfl, hcap, hr, hfr⟩ := row_owned ho (by omega)
  refine ⟨a, cap, by rw [hlen], by omega, ?_⟩
  rcases List.eq_nil_or_concat xs with hx | ⟨_, y0, hx0⟩
  · subst hx
    obtain rfl : L = [] := List.eq_nil_of_length_eq_zero (by simpa using hlen.symm)
    have hcon := Go.Proofs.AnyF.slices_SortFunc_none Try.sortE a cap (.func (.func 27) #[] #[]) w
    refine hcon.mono ?_
    rintro e w' ⟨rfl, rfl⟩
    exact ⟨rfl, row_nil _ _, hfr, Below.refl _ _⟩
  · have h0 : 0 < xs.length := by rw [hx0]; simp
    obtain ⟨y, hy⟩ : ∃ y, xs[0]? = some y := ⟨xs[0], List.getElem?_eq_getElem h0⟩
    obtain ⟨g, o, e, hg, _⟩ := hr.at_ 0 y hy
    subst e
    obtain ⟨e1, _, hng, _⟩ := hfr _ rfl
    simp only at e1 hng
    subst e1
    have hH := holds_of_row (cap := cap) hr hfr
    have eg : ∀ args w, (callFunc 27 args).run Try.prog w = .ok (.enter 27 args) w := enters_of Try.func27 (by kernel_rfl) rfl
    have hcon := Go.Proofs.AnyQ.slices_SortFunc Try.sortE 5 Try.isAgg41 Try.sizeOf41 cellsOf (fun _ => rfl) (fun x v hv => by simp [cellsOf] at hv; rcases hv with rfl | rfl | rfl | rfl | rfl <;> rfl) cfE swoE 27 #[] g 0 cap xs.toArray w eg (cmpLays g 0 xs.toArray.size w) hH hg (by simp; omega)
    have hss : xs.toArray.size = L.length := by simpa using hlen
    rw [hss] at hcon
    refine Calls.mono hcon fun e w' h => ?_
    obtain ⟨rfl, d', k, os, hp', hs', rfl⟩ := h
    rw [← hss] at hp' hs'
    have hd := sort_out hL (by simpa using hp) hp' hs'
    have hsd : d'.size = xs.toArray.size := hp'.1
    have hH' := Go.Proofs.holdsK_sortWorldK_c cellsOf 5 w g 0 xs.toArray d' k os hH hg hsd
    have hgr := grown_sorted (w := w) (g := g) (n := k) (os := os) d'
    have hcell : ∀ j x, L[j]? = some x → _ := fun j x hx => at5_of_holds hH' (j := j) (x := x) (by rw [← Array.getElem?_toList, hd]; exact hx)
    refine ⟨rfl, ⟨hf, fun j x hx => ⟨g, 0, rfl, Nat.lt_of_lt_of_le hg hgr.size, (hcell j x hx).1⟩⟩, fun g' e => ?_, (Below.refl n w).grown hgr hn (fun j e => by cases e; exact hng)⟩
    cases e
    refine ⟨rfl, rfl, hng, fun j hj => ?_⟩
    obtain ⟨x, hx⟩ : ∃ x, L[j / 5]? = some x := ⟨L[j / 5], List.getElem?_eq_getElem (by omega)⟩
    have := (hcell _ x hx).2 (j % 5) (Nat.mod_lt _ (by omega))
    rw [show j / 5 * 5 + j % 5 = j by omega] at this
    exact this

/-! ### SortedFunc, List -/
theorem collect_c (Bm b : Nat) (L : List En) (w : World) (hBm : Bm < w.heap.size) (hm : w.cell? ⟨Bm, 0, none⟩ = some (.map (some b))) (hmp : IsMp w b L) :
    Calls Try.prog 44 #[.func (.func 46) #[] #[.pointer (some ⟨Bm, 0, none⟩)]] w fun e W' =>
      ∃ v xs, e = .returned v ∧ xs.Perm L ∧ W'.ownsRow w.heap.size 41 5 v xs.length (cellsE xs) ∧ Below w.heap.size w W' :=
  (callsIn_wide (n := 4)).1 (collect_in Fence.wide 4 trivial trivial trivial rfl (by omega) Bm b L w hBm hm hmp)
theorem values_c (mb : Option Nat) (w : World) :
    Calls Try.prog 26 #[.map mb] w fun e w' => e = .returned (.func (.func 46) #[] #[.pointer (some ⟨w.heap.size, 0, none⟩)]) ∧ w' = w.alloc (.cells #[.map mb] 53) :=
  (callsIn_wide (n := 4)).1 (values_in Fence.wide 4 trivial rfl mb w)

set_option maxHeartbeats 400000 in
theorem sorted_w (Bm b : Nat) (L : List En) (w : World) (hBm : Bm < w.heap.size) (hm : w.cell? ⟨Bm, 0, none⟩ = some (.map (some b))) (hmp : IsMp w b L) :
    Calls Try.prog 25 #[.func (.func 46) #[] #[.pointer (some ⟨Bm, 0, none⟩)], .func (.func 27) #[] #[]] w fun e w' =>
      ∃ a cap, e = .returned (.slice a L.length cap) ∧ L.length ≤ cap ∧ Row w' a L ∧ Fresh w' w.heap.size a L.length ∧ Below w.heap.size w w' := by
  have hL := hmp.sorted
  have hf := hmp.few
  have hC := collect_c Bm b L w hBm hm hmp
  clear hmp
  go_enter Try.func25, Try.ntmps25
  go_wp2_with (first
    | (go_at_call 44; refine hC.mono ?_; clear hC; rintro e w1 ⟨v, xs, rfl, hp, ho, hb⟩; obtain ⟨a, cap, rfl, hcap, hcon⟩ := sortFunc_w v xs L w.heap.size w1 hb.size hL hp hf ho)
    | (go_at_call 45; refine hcon.mono ?_; clear hcon; rintro e w2 ⟨rfl, hr, hfr, hb2⟩))
  go_ret
  exact ⟨a, cap, rfl, hcap, hr, hfr, hb.trans hb2⟩

/-- Block tb is a table: its room, its map's block, how many were learned. -/
def TBlk (w : World) (tb : Nat) (room : Int) (mb : Nat) (n : Int) : Prop := w.heap[tb]? = some (.cells #[.int .i64 room, .map (some mb), .int .i64 n] 60 (0, 0))
theorem TBlk.lt {w : World} {tb : Nat} {room : Int} {mb : Nat} {n : Int} (h : TBlk w tb room mb n) : tb < w.heap.size := (Array.getElem?_eq_some_iff.1 h).1
theorem TBlk.cells {w : World} {tb : Nat} {room : Int} {mb : Nat} {n : Int} (h : TBlk w tb room mb n) : w.cell? ⟨tb, 0, none⟩ = some (.int .i64 room) ∧ w.cell? ⟨tb, 1, none⟩ = some (.map (some mb)) ∧ w.cell? ⟨tb, 2, none⟩ = some (.int .i64 n) := by
  unfold TBlk at h
  refine ⟨?_, ?_, ?_⟩ <;> simp [World.cell?, h]
theorem TBlk.free {w : World} {tb : Nat} {room : Int} {mb : Nat} {n : Int} (h : TBlk w tb room mb n) (j : Nat) : w.frozen? ⟨tb, j, none⟩ = false := by
  unfold TBlk at h
  simp [World.frozen?, h]
theorem TBlk.same {w w' : World} {tb : Nat} {room : Int} {mb : Nat} {n : Int} (h : TBlk w tb room mb n) (hb : w'.heap[tb]? = w.heap[tb]?) : TBlk w' tb room mb n := hb.trans h
theorem TBlk.below {w w' : World} {tb B : Nat} {room : Int} {mb : Nat} {n : Int} (h : TBlk w tb room mb n) (hb : Below B w w') (hB : tb < B) : TBlk w' tb room mb n := (hb.block tb hB).trans h
theorem TBlk.set {w : World} {tb : Nat} {room : Int} {mb : Nat} {n : Int} (h : TBlk w tb room mb n) (x : Int) : TBlk (w.setCell ⟨tb, 2, none⟩ (.int .i64 x)) tb room mb x := by
  unfold TBlk at h ⊢
  obtain ⟨hlt, hk⟩ := Array.getElem?_eq_some_iff.1 h
  show (w.heap.modify tb _)[tb]? = _
  rw [Array.getElem?_eq_getElem (by rw [Array.size_modify]; exact hlt), Array.getElem_modify_self, hk]
  rfl

/-- A table as the program keeps it. -/
structure IsTab (w : World) (tb mb : Nat) (room : Nat) (t : Tb) : Prop where
  blk : TBlk w tb room mb t.learned
  map : IsMp w mb t.l
  ok : t.ok room
  room1 : 1 ≤ room
  room64 : room ≤ 64
  n0 : 0 ≤ t.learned
theorem IsTab.ne {w : World} {tb mb room : Nat} {t : Tb} (h : IsTab w tb mb room t) : tb ≠ mb := by
  intro e
  obtain ⟨D, ⟨es, clock, hb, _⟩, _⟩ := h.map.own
  have := h.blk
  unfold TBlk at this
  rw [e, hb] at this
  cases this
theorem IsTab.same {w w' : World} {tb mb room : Nat} {t : Tb} (h : IsTab w tb mb room t) (h1 : w'.heap[tb]? = w.heap[tb]?) (h2 : w'.heap[mb]? = w.heap[mb]?) : IsTab w' tb mb room t :=
  ⟨h.blk.same h1, h.map.same h2, h.ok, h.room1, h.room64, h.n0⟩
theorem IsTab.next {w w' : World} {tb mb room : Nat} {t : Tb} (h : IsTab w tb mb room t) (hb : Below w.heap.size w w') : IsTab w' tb mb room t :=
  h.same (hb.block tb h.blk.lt) (hb.block mb h.map.lt)

set_option maxHeartbeats 400000 in
theorem list_w (tb mb room : Nat) (t : Tb) (w : World) (h : IsTab w tb mb room t) :
    Calls Try.prog 10 #[.pointer (some ⟨tb, 0, none⟩)] w fun e w' =>
      ∃ a cap, e = .returned (.slice a t.l.length cap) ∧ t.l.length ≤ cap ∧ Row w' a t.l ∧ Fresh w' w.heap.size a t.l.length ∧ Below w.heap.size w w' := by
  obtain ⟨c0, c1, c2⟩ := h.blk.cells
  have hlt := h.blk.lt
  have hm := h.map
  have hS := sorted_w w.heap.size mb t.l (w.alloc (.cells #[.map (some mb)] 53)) (by simp) (cell_one_new w (.map (some mb)) 53 0 _ rfl) (hm.kept (World.grownBy_alloc _ _ none) (by simp))
  rw [size_box] at hS
  clear h hm
  go_enter Try.func10, Try.ntmps10
  go_wp2_with (first
    | (go_at_call 26; refine (values_c _ _).mono ?_; rintro e w1 ⟨rfl, rfl⟩)
    | (go_at_call 25; refine hS.mono ?_; clear hS; rintro e w2 ⟨a, cap, rfl, hcap, hr, hfr, hb⟩))
  go_ret
  refine ⟨a, cap, rfl, hcap, hr, fun g e => ?_, (below_box w _).trans (hb.mono (Nat.le_succ _))⟩
  obtain ⟨f1, f2, f3, f4⟩ := hfr g e
  exact ⟨f1, f2, by omega, f4⟩
end Go.Proofs.Ytkpfdaomhkcokaa
