/-
  For any BPDU, VLAN and bytes: sstp answers just what the document says: the bytes or the refusal; what is heard (the walk of the statement SstpTells).
-/
import Derived.Test.YtaifkepojfhgkaaDoorSsK
import Derived.Test.YtaifkepojfhgkaaDoorSsQ
namespace Go.Proofs.YtaifkepojfhgkaaDoor.sstpTells
set_option linter.unusedVariables false
set_option linter.unusedSimpArgs false
open Go.ChangeShapes Go.WideShapes Go.ChangeAt Go.RowKit Bm

/-- The BPDU lies where it came in, the table of sizes stands, nothing that was there has turned. -/
structure LInv (w : World) (x : Bp) (wx : World) : Prop where
  f0 : Blk 26 wx w.heap.size x
  hs : Sizes wx
  be : Below w.heap.size w wx
theorem LInv.next {w : World} {x : Bp} {wx wy : World} (h : LInv w x wx) (hb : Below wx.heap.size wx wy) : LInv w x wy :=
  ⟨h.f0.next hb, h.hs.next hb, bw_trans h.be hb⟩

set_option maxHeartbeats 8000000 in
set_option maxRecDepth 100000 in
theorem walk (bk bf br bc bb bp ba bm bh bd v : Int) (s : ByteArray) (w : World) (hS : Sizes w) (okb : Bp.ok ⟨bk, bf, br, bc, bb, bp, ba, bm, bh, bd⟩) (hs : s.size ≤ maxLen) :
    Calls Tryd.prog 3 #[bv bk bf br bc bb bp ba bm bh bd, .int .i64 v, .string s] w fun e w' => e = .returned (.bool true) ∧ Below w.heap.size w w' := by
  have HS := Lib.hid hs
  unfold maxLen at hs
  have OB := Lib.hid okb; clear okb
  unfold bv
  go_enter Tryd.func3, Tryd.ntmps3
  go_wp2_with fail
  have I0 : LInv w ⟨bk, bf, br, bc, bb, bp, ba, bm, bh, bd⟩ (w.alloc (.cells #[.int .i64 bk, .int .i64 bf, .int .u64 br, .int .u64 bc, .int .u64 bb, .int .u64 bp, .int .i64 ba, .int .i64 bm, .int .i64 bh, .int .i64 bd] 26)) :=
    ⟨blk_new 26 w bk bf br bc bb bp ba bm bh bd, hS.next (below_box w _), below_box w _⟩
  refine (awake_any _ I0.hs).mono ?_
  rintro e w1 ⟨rfl, hb1⟩
  have I1 := I0.next hb1
  clear hb1 I0 hS
  by_cases g1 : 1600 < s.size
  · go_wp2
    go_ret
    exact ⟨rfl, I1.be⟩
  have ls : s.size ≤ 1600 := by omega
  clear hs g1
  obtain ⟨⟨X, E⟩, hX⟩ : ∃ r, sprintR ⟨bk, bf, br, bc, bb, bp, ba, bm, bh, bd⟩ v = r := ⟨_, rfl⟩
  have HX := Lib.hid hX; clear hX
  obtain ⟨⟨⟨x0, x1, x2, x3, x4, x5, x6, x7, x8, x9⟩, U, G⟩, hY⟩ : ∃ r, sparseR s = r := ⟨_, rfl⟩
  have HY := Lib.hid hY; clear hY
  have y := I1.f0.cells
  obtain ⟨c0, c1, c2, c3, c4, c5, c6, c7, c8, c9⟩ := y
  go_wp2_with fail
  have hpw := sprint_w bk bf br bc bb bp ba bm bh bd v w1 X E HX I1.hs OB.out
  refine hpw.mono ?_
  clear hpw
  rintro e w2 ⟨rfl, hb2⟩
  have I2 := I1.next hb2
  clear hb2 I1 c0 c1 c2 c3 c4 c5 c6 c7 c8 c9
  have y := I2.f0.cells
  obtain ⟨c0, c1, c2, c3, c4, c5, c6, c7, c8, c9⟩ := y
  go_wp2_with fail
  have hpw := rsprint_w bk bf br bc bb bp ba bm bh bd v w2 X E HX OB.out
  refine hpw.mono ?_
  clear hpw HX
  rintro e w3 ⟨rfl, hb3⟩
  have I3 := I2.next hb3
  clear hb3 I2 c0 c1 c2 c3 c4 c5 c6 c7 c8 c9
  go_wp2_with fail
  have hpw := sparse_w s w3 x0 x1 x2 x3 x4 x5 x6 x7 x8 x9 U G HY I3.hs HS.out
  refine hpw.mono ?_
  clear hpw
  rintro e w4 ⟨rfl, hb4⟩
  have n4 := blk_new 26 w4 x0 x1 x2 x3 x4 x5 x6 x7 x8 x9
  have I4 := (I3.next hb4).next (below_box w4 (.cells #[.int .i64 x0, .int .i64 x1, .int .u64 x2, .int .u64 x3, .int .u64 x4, .int .u64 x5, .int .i64 x6, .int .i64 x7, .int .i64 x8, .int .i64 x9] 26))
  clear hb4 I3
  go_wp2_with fail
  have hpw := rsparse_w s (w4.alloc (.cells #[.int .i64 x0, .int .i64 x1, .int .u64 x2, .int .u64 x3, .int .u64 x4, .int .u64 x5, .int .i64 x6, .int .i64 x7, .int .i64 x8, .int .i64 x9] 26)) x0 x1 x2 x3 x4 x5 x6 x7 x8 x9 U G HY HS.out
  refine hpw.mono ?_
  clear hpw HY
  rintro e w5 ⟨rfl, hb5⟩
  have m5 := blk_new 33 w5 x0 x1 x2 x3 x4 x5 x6 x7 x8 x9
  have n5 := (n4.next hb5).next (below_box w5 (.cells #[.int .i64 x0, .int .i64 x1, .int .u64 x2, .int .u64 x3, .int .u64 x4, .int .u64 x5, .int .i64 x6, .int .i64 x7, .int .i64 x8, .int .i64 x9] 33))
  have I5 := (I4.next hb5).next (below_box w5 (.cells #[.int .i64 x0, .int .i64 x1, .int .u64 x2, .int .u64 x3, .int .u64 x4, .int .u64 x5, .int .i64 x6, .int .i64 x7, .int .i64 x8, .int .i64 x9] 33))
  clear hb5 I4 n4
  go_upto_region 9 with (fail)
  obtain ⟨W, hW⟩ : ∃ W, W = w5.alloc (.cells #[.int .i64 x0, .int .i64 x1, .int .u64 x2, .int .u64 x3, .int .u64 x4, .int .u64 x5, .int .i64 x6, .int .i64 x7, .int .i64 x8, .int .i64 x9] 33) := ⟨_, rfl⟩
  rw [← hW] at n5 m5 I5 ⊢
  clear hW
  have y := n5.cells
  obtain ⟨d0, d1, d2, d3, d4, d5, d6, d7, d8, d9⟩ := y
  have y := m5.cells
  obtain ⟨e0, e1, e2, e3, e4, e5, e6, e7, e8, e9⟩ := y
  have hq := run_rpEq x0 x1 x2 x3 x4 x5 x6 x7 x8 x9 x0 x1 x2 x3 x4 x5 x6 x7 x8 x9
  have hqs := bpEq_self ⟨x0, x1, x2, x3, x4, x5, x6, x7, x8, x9⟩
  go_wp2
  go_ret
  exact ⟨rfl, I5.be⟩
end Go.Proofs.YtaifkepojfhgkaaDoor.sstpTells
