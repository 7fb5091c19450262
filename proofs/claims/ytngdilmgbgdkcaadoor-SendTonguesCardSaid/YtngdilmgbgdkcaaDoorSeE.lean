/-
  Layer 14: awake.
-/
import Derived.Test.YtngdilmgbgdkcaaDoorSeX
import Derived.Test.YtngdilmgbgdkcaaDoorInY
namespace Go.Proofs.YtngdilmgbgdkcaaDoor
set_option linter.unusedVariables false
set_option linter.unusedSimpArgs false
open Go.RowKit Vm Rm Bm Im

def A14 : Pt := { zeroP with id := 1, on := true, ready := true, role := 2, sendRstp := true, given := ⟨0, 20, 2, 15⟩ }
def Q14 : Pt := (sendP U9 A14).1
def M14 : Bp := (sendP U9 A14).2.1
def R14 : Pt := (sendP U9 Q14).1
def N14 : Bp := (sendP U9 Q14).2.1
def B14 : Pt := { zeroP with on := true, migrate := 2, sendRstp := true, heardStp := true }
def C14 : Pt := tongueP B14
def D14 : Pt := { zeroP with on := true, proposing := true, sendRstp := true }
def E14 : Pt := edgeP D14
theorem send_1 : sendP U9 A14 = (Q14, M14, true) := Prod.ext rfl (Prod.ext rfl (by show (sendP U9 A14).2.2 = true; decide +kernel))
theorem send_2 : sendP U9 Q14 = (R14, N14, false) := Prod.ext rfl (Prod.ext rfl (by show (sendP U9 Q14).2.2 = false; decide +kernel))
theorem facts_14 : M14.kind = 3 ∧ M14.flags = 12 ∧ M14.max = 5120 ∧ Q14.txCount = 1 ∧ Q14.hello = 2 ∧ C14.sendRstp = false ∧ C14.md = 3 ∧ C14.migrate = 1 ∧ E14.oper = true := by decide +kernel
theorem given_14 : (0 ≤ Q14.given.age ∧ 0 ≤ Q14.given.max ∧ 0 ≤ Q14.given.hello ∧ 0 ≤ Q14.given.delay) ∧ smallB Q14 = true ∧ -9223372036854775808 ≤ Q14.txCount := by decide +kernel
/-- What holds wherever the region is. -/
structure AwS (w : World) (nb : Nat) (A : Pt) (V : World) : Prop where
  pt : PtBlk 30 V nb A
  roles : TRoles V
  below : Below w.heap.size w V
  zero : 0 < w.heap.size
section
variable {w V V' : World} {nb : Nat} {A : Pt}
theorem AwS.next (h : AwS w nb A V) (hb : Below V.heap.size V V') : AwS w nb A V' := ⟨h.pt.next hb, h.roles.next hb, bw_trans h.below hb, h.zero⟩
theorem AwS.alloc (h : AwS w nb A V) (x : Obj) : AwS w nb A (V.alloc x) := h.next (bw_alloc (Below.refl _ V) x)
theorem AwS.drew (h : AwS w nb A V) : AwS w nb A V.drew := ⟨h.pt, h.roles, h.below.drew, h.zero⟩
theorem AwS.row (h : AwS w nb A V) {g : Nat} (hg : w.heap.size ≤ g ∧ nb < g) (cs : Array Value) : AwS w nb A (V.setRow g cs) :=
  ⟨(setRow_other _ _ _ _ (by omega)).trans h.pt, h.roles.below (below_row (Below.refl 1 V) (by have := h.zero; omega) _) Nat.one_pos, below_row h.below hg.1 cs, h.zero⟩
end
theorem pt_alloc {T : TypeId} {w : World} {b : Nat} {p : Pt} (h : PtBlk T w b p) (x : Obj) : PtBlk T (w.alloc x) b p := h.next (bw_alloc (Below.refl _ w) x)
theorem bp_alloc {T : TypeId} {w : World} {b : Nat} {p : Bp} (h : BBlk T w b p) (x : Obj) : BBlk T (w.alloc x) b p := h.next (bw_alloc (Below.refl _ w) x)
/-- Behind a region: what was sent lies somewhere behind the port. -/
def AwR (w : World) (nb : Nat) (A Q : Pt) (M : Bp) (ok : Bool) (u v x : Value) (wx : World) : Prop :=
  ∃ n m : Nat, u = .pointer (some ⟨n, 0, none⟩) ∧ v = .pointer (some ⟨m, 0, none⟩) ∧ x = .bool ok ∧ (w.heap.size ≤ n ∧ nb < n) ∧ (w.heap.size ≤ m ∧ nb < m) ∧ PtBlk 30 wx n Q ∧ BBlk 34 wx m M ∧ AwS w nb A wx

theorem pt_drew {T : TypeId} {w : World} {b : Nat} {p : Pt} (h : PtBlk T w b p) : PtBlk T w.drew b p := h
theorem bp_drew {T : TypeId} {w : World} {b : Nat} {p : Bp} (h : BBlk T w b p) : BBlk T w.drew b p := h
theorem pt_drew' {T : TypeId} {w : World} {b : Nat} {p : Pt} (h : PtBlk T w b p) : PtBlk T w b p := h
theorem bp_drew' {T : TypeId} {w : World} {b : Nat} {p : Bp} (h : BBlk T w b p) : BBlk T w b p := h
set_option maxRecDepth 20000 in
set_option maxHeartbeats 16000000 in
theorem awake14_any (w : World) (hT : TRoles w) : Calls Tryd.prog 5 #[] w fun e w' => e = .returned (.bool true) ∧ Below w.heap.size w w' := by
  have CU := Lib.hid (fun w' => usual_w 9 w')
  have CS := Lib.hid (fun (w' : World) (h : TRoles w') => show Calls Tryd.prog 7 #[.agg #[.int .u64 9, .int .i64 0, .int .i64 20, .int .i64 2, .int .i64 15], .agg (cellsT A14)] w' (fun e w'' => e = .returned (.tuple #[.agg (cellsT Q14), M14.val, .bool true]) ∧ Below w'.heap.size w' w'') from send14_w 9 U9 A14 Q14 M14 true w' h (by decide +kernel) (by decide +kernel) (by decide +kernel) send_1)
  have CT := Lib.hid (fun (w' : World) (h : TRoles w') => show Calls Tryd.prog 7 #[.agg #[.int .u64 9, .int .i64 0, .int .i64 20, .int .i64 2, .int .i64 15], .agg (cellsT Q14)] w' (fun e w'' => e = .returned (.tuple #[.agg (cellsT R14), N14.val, .bool false]) ∧ Below w'.heap.size w' w'') from send14_w 9 U9 Q14 R14 N14 false w' h given_14.2.1 given_14.1 given_14.2.2 send_2)
  have CTo := Lib.hid (fun w' => tongue14_w B14 w')
  have CEd := Lib.hid (fun w' => edge14_w D14 w')
  have HT := Lib.hid hT
  unfold brv at CU
  clear hT
  go_enter Tryd.func5, Tryd.ntmps5
  go_upto_region 2 with (first
    | (with_reducible refine wpList_built rfl 30 _ rfl (cellsT A14) (by kernel_rfl) ?_)
    | (refine wpList_ptst rfl _ _ rfl w.heap.size rfl A14 zeroP rfl (ptblk_new _ w zeroP) ?_))
  obtain ⟨W, nb, HW, HN, k0, kB, kL⟩ := fillS_is w A14
  refine wp_to (W := W) (by exact HW.out.symm) ?_
  rw [HN.out]
  have S0 := Lib.hid (show AwS w nb A14 W from ⟨k0, HT.out.next (HN.out ▸ kB), HN.out ▸ kB, HT.out.pos⟩)
  clear k0 kB kL HW
  try simp only [Act.put]
  go_cut [2, 3, 4] (fun u v x wx => AwR w nb A14 Q14 M14 true u v x wx)
  case first =>
    refine wp_region_held_drew (S := AwS w nb A14) (by kernel_rfl) (show AwS w nb A14 W.drew from S0.out.drew) (fun hHeld => ?_)
    try simp only [Act.put]
    refine wpAnyH_take (i := 1) (v := .agg (cellsT A14)) rfl (by kernel_rfl) (by kernel_rfl) (by kernel_rfl) (fun _ _ _ h => h) (yieldsIf_run (by rfl) 30 _ rfl ⟨nb, 0, none⟩ rfl _ (fun V h => loadAt_row h.pt rfl rfl (by kernel_rfl))) hHeld ?_
    try simp only [Act.put, List.getElem_toArray, List.getElem_cons_succ, List.getElem_cons_zero, List.setIfInBounds_toArray, List.set_cons_zero, List.set_cons_succ]
    refine wpAnyH_ready (rs := [0, 7, 8]) (by kernel_rfl) (by simp) ?_
    refine AllReadyH.cons rfl (fun K hK => ?_) ?_
    · go_simp
      (with_reducible refine (CU.out _).mono ?_)
      rintro e z1 ⟨rfl, hz⟩
      have S1 := Lib.hid (S0.out.drew.next hz)
      clear hz hHeld
      go_simp
      refine hK.out _ _ S1.out (fun hHeld => ?_)
      clear hK
      try simp only [Act.put, List.getElem_toArray, List.getElem_cons_succ, List.getElem_cons_zero, List.setIfInBounds_toArray, List.set_cons_zero, List.set_cons_succ]
      refine wpAnyH_ready (rs := [2, 7, 8]) (by kernel_rfl) (by simp) ?_
      refine AllReadyH.cons rfl (fun K hK => ?_) ?_
      · go_simp
        (with_reducible refine (CS.out _ S1.out.roles).mono ?_)
        rintro e z2 ⟨rfl, hz⟩
        have S2 := Lib.hid (S1.out.next hz)
        clear hz hHeld
        go_simp
        refine hK.out _ _ S2.out (fun hHeld => ?_)
        clear hK
        try simp only [Act.put, List.getElem_toArray, List.getElem_cons_succ, List.getElem_cons_zero, List.setIfInBounds_toArray, List.set_cons_zero, List.set_cons_succ]
        refine wpAnyH_take (i := 3) (v := .tuple #[.agg (cellsT Q14), M14.val, .bool true]) rfl (by kernel_rfl) (by kernel_rfl) (by kernel_rfl) (fun _ _ _ h => h) (Or.inl ⟨by rfl, fun V h => by go_simp⟩) hHeld ?_
        try simp only [Act.put, List.getElem_toArray, List.getElem_cons_succ, List.getElem_cons_zero, List.setIfInBounds_toArray, List.set_cons_zero, List.set_cons_succ]
        refine wpAnyH_take (i := 4) (v := .agg (cellsT Q14)) rfl (by kernel_rfl) (by kernel_rfl) (by kernel_rfl) (fun _ _ _ h => h) (Or.inl ⟨by rfl, fun V h => by go_simp⟩) hHeld ?_
        try simp only [Act.put, List.getElem_toArray, List.getElem_cons_succ, List.getElem_cons_zero, List.setIfInBounds_toArray, List.set_cons_zero, List.set_cons_succ]
        refine wpAnyH_take (i := 5) (v := M14.val) rfl (by kernel_rfl) (by kernel_rfl) (by kernel_rfl) (fun _ _ _ h => h) (Or.inl ⟨by rfl, fun V h => by go_simp⟩) hHeld ?_
        try simp only [Act.put, List.getElem_toArray, List.getElem_cons_succ, List.getElem_cons_zero, List.setIfInBounds_toArray, List.set_cons_zero, List.set_cons_succ]
        refine wpAnyH_take (i := 6) (v := .bool true) rfl (by kernel_rfl) (by kernel_rfl) (by kernel_rfl) (fun _ _ _ h => h) (Or.inl ⟨by rfl, fun V h => by go_simp⟩) hHeld ?_
        try simp only [Act.put, List.getElem_toArray, List.getElem_cons_succ, List.getElem_cons_zero, List.setIfInBounds_toArray, List.set_cons_zero, List.set_cons_succ]
        refine wpAnyH_ready (rs := [7, 8]) (by kernel_rfl) (by simp) ?_
        refine AllReadyH.cons rfl (fun K hK => ?_) ?_
        · go_simp
          have S3 := Lib.hid (S2.out.alloc (.cells (cellsT zeroP) 30))
          have KP3 := Lib.hid (show PtBlk 30 (World.alloc z2 _) (World.heap z2).size zeroP from heap_alloc_new z2 (.cells (cellsT zeroP) 30))
          have L3 := Lib.hid (And.intro S2.out.below.size S2.out.pt.lt)
          refine hK.out _ _ S3.out (fun hHeld => ?_)
          clear hK
          try simp only [Act.put, List.getElem_toArray, List.getElem_cons_succ, List.getElem_cons_zero, List.setIfInBounds_toArray, List.set_cons_zero, List.set_cons_succ]
          refine wpAnyH_ready (rs := [8]) (by kernel_rfl) (by simp) ?_
          refine AllReadyH.cons rfl (fun K hK => ?_) AllReadyH.nil
          go_simp
          have S4 := Lib.hid (S3.out.alloc (.cells (cellsB zeroM) 34))
          have KB4 := Lib.hid (show BBlk 34 (World.alloc (World.alloc z2 (.cells (cellsT zeroP) 30)) _) ((World.heap z2).size + 1) zeroM by have h := heap_alloc_new (World.alloc z2 (.cells (cellsT zeroP) 30)) (.cells (cellsB zeroM) 34); rw [size_box] at h; exact h)
          have L4 := Lib.hid (by have a := S3.out.below.size; have b := S3.out.pt.lt; rw [size_box] at a b; exact And.intro a b)
          have N4 := Lib.hid (Nat.ne_of_lt (by have a := KP3.out.lt; rw [size_box] at a; exact a))
          have KP4 := Lib.hid (pt_alloc KP3.out (.cells (cellsB zeroM) 34))
          refine hK.out _ _ S4.out (fun hHeld => ?_)
          clear hK
          try simp only [Act.put, List.getElem_toArray, List.getElem_cons_succ, List.getElem_cons_zero, List.setIfInBounds_toArray, List.set_cons_zero, List.set_cons_succ]
          refine wpAnyH_ready (rs := [9]) (by kernel_rfl) (by simp) ?_
          refine AllReadyH.cons rfl (fun K hK => ?_) AllReadyH.nil
          rw [if_pos (by kernel_rfl)]
          refine wp_store_row 30 _ _ rfl _ (cellsT Q14) rfl rfl 30 _ KP4.out infoSP rfl (cellsT_one _) ?_
          have S5 := Lib.hid (S4.out.row L3.out (cellsT Q14))
          have KP5 := Lib.hid (KP4.out.row Q14)
          have KB5 := Lib.hid (show BBlk 34 (World.setRow _ _ (cellsT Q14)) _ zeroM from (setRow_other _ _ _ _ (N4.out.symm)).trans KB4.out)
          refine hK.out _ _ S5.out (fun hHeld => ?_)
          clear hK
          try simp only [Act.put, List.getElem_toArray, List.getElem_cons_succ, List.getElem_cons_zero, List.setIfInBounds_toArray, List.set_cons_zero, List.set_cons_succ]
          refine wpAnyH_ready (rs := [10]) (by kernel_rfl) (by simp) ?_
          refine AllReadyH.cons rfl (fun K hK => ?_) AllReadyH.nil
          rw [if_pos (by kernel_rfl)]
          refine wp_store_row 34 _ _ rfl _ (cellsB M14) rfl rfl 34 _ KB5.out infoSB rfl (cellsB_one _) ?_
          have S6 := Lib.hid (S5.out.row L4.out (cellsB M14))
          have KP6 := Lib.hid (show PtBlk 30 (World.setRow _ _ (cellsB M14)) _ Q14 from (setRow_other _ _ _ _ (N4.out)).trans KP5.out)
          have KB6 := Lib.hid (KB5.out.row M14)
          refine hK.out _ _ S6.out (fun hHeld => ?_)
          clear hK
          try simp only [Act.put, List.getElem_toArray, List.getElem_cons_succ, List.getElem_cons_zero, List.setIfInBounds_toArray, List.set_cons_zero, List.set_cons_succ]
          refine wpAnyH_take (i := 11) (v := .bool true) rfl (by kernel_rfl) (by kernel_rfl) (by kernel_rfl) (fun _ _ _ h => h) (Or.inl ⟨by rfl, fun V h => by go_simp⟩) hHeld ?_
          try simp only [Act.put, List.getElem_toArray, List.getElem_cons_succ, List.getElem_cons_zero, List.setIfInBounds_toArray, List.set_cons_zero, List.set_cons_succ]
          refine wpAnyH_done (by kernel_rfl) ?_ _
          clear hHeld
          go_wp2_with fail
          go_meet
          exact ⟨_, _, rfl, rfl, rfl, L3.out, L4.out, KP6.out, KB6.out, S6.out⟩
        refine AllReadyH.cons rfl (fun K hK => ?_) AllReadyH.nil
        go_simp
        have S7 := Lib.hid (S2.out.alloc (.cells (cellsB zeroM) 34))
        have KB7 := Lib.hid (show BBlk 34 (World.alloc z2 _) (World.heap z2).size zeroM from heap_alloc_new z2 (.cells (cellsB zeroM) 34))
        have L7 := Lib.hid (And.intro S2.out.below.size S2.out.pt.lt)
        refine hK.out _ _ S7.out (fun hHeld => ?_)
        clear hK
        try simp only [Act.put, List.getElem_toArray, List.getElem_cons_succ, List.getElem_cons_zero, List.setIfInBounds_toArray, List.set_cons_zero, List.set_cons_succ]
        refine wpAnyH_ready (rs := [7]) (by kernel_rfl) (by simp) ?_
        refine AllReadyH.cons rfl (fun K hK => ?_) AllReadyH.nil
        go_simp
        have S8 := Lib.hid (S7.out.alloc (.cells (cellsT zeroP) 30))
        have KP8 := Lib.hid (show PtBlk 30 (World.alloc (World.alloc z2 (.cells (cellsB zeroM) 34)) _) ((World.heap z2).size + 1) zeroP by have h := heap_alloc_new (World.alloc z2 (.cells (cellsB zeroM) 34)) (.cells (cellsT zeroP) 30); rw [size_box] at h; exact h)
        have L8 := Lib.hid (by have a := S7.out.below.size; have b := S7.out.pt.lt; rw [size_box] at a b; exact And.intro a b)
        have N8 := Lib.hid (Nat.ne_of_lt (by have a := KB7.out.lt; rw [size_box] at a; exact a))
        have KB8 := Lib.hid (bp_alloc KB7.out (.cells (cellsT zeroP) 30))
        refine hK.out _ _ S8.out (fun hHeld => ?_)
        clear hK
        try simp only [Act.put, List.getElem_toArray, List.getElem_cons_succ, List.getElem_cons_zero, List.setIfInBounds_toArray, List.set_cons_zero, List.set_cons_succ]
        refine wpAnyH_ready (rs := [9]) (by kernel_rfl) (by simp) ?_
        refine AllReadyH.cons rfl (fun K hK => ?_) AllReadyH.nil
        rw [if_pos (by kernel_rfl)]
        refine wp_store_row 30 _ _ rfl _ (cellsT Q14) rfl rfl 30 _ KP8.out infoSP rfl (cellsT_one _) ?_
        have S9 := Lib.hid (S8.out.row L8.out (cellsT Q14))
        have KP9 := Lib.hid (KP8.out.row Q14)
        have KB9 := Lib.hid (show BBlk 34 (World.setRow _ _ (cellsT Q14)) _ zeroM from (setRow_other _ _ _ _ (N8.out)).trans KB8.out)
        refine hK.out _ _ S9.out (fun hHeld => ?_)
        clear hK
        try simp only [Act.put, List.getElem_toArray, List.getElem_cons_succ, List.getElem_cons_zero, List.setIfInBounds_toArray, List.set_cons_zero, List.set_cons_succ]
        refine wpAnyH_ready (rs := [10]) (by kernel_rfl) (by simp) ?_
        refine AllReadyH.cons rfl (fun K hK => ?_) AllReadyH.nil
        rw [if_pos (by kernel_rfl)]
        refine wp_store_row 34 _ _ rfl _ (cellsB M14) rfl rfl 34 _ KB9.out infoSB rfl (cellsB_one _) ?_
        have S10 := Lib.hid (S9.out.row L7.out (cellsB M14))
        have KP10 := Lib.hid (show PtBlk 30 (World.setRow _ _ (cellsB M14)) _ Q14 from (setRow_other _ _ _ _ (N8.out.symm)).trans KP9.out)
        have KB10 := Lib.hid (KB9.out.row M14)
        refine hK.out _ _ S10.out (fun hHeld => ?_)
        clear hK
        try simp only [Act.put, List.getElem_toArray, List.getElem_cons_succ, List.getElem_cons_zero, List.setIfInBounds_toArray, List.set_cons_zero, List.set_cons_succ]
        refine wpAnyH_take (i := 11) (v := .bool true) rfl (by kernel_rfl) (by kernel_rfl) (by kernel_rfl) (fun _ _ _ h => h) (Or.inl ⟨by rfl, fun V h => by go_simp⟩) hHeld ?_
        try simp only [Act.put, List.getElem_toArray, List.getElem_cons_succ, List.getElem_cons_zero, List.setIfInBounds_toArray, List.set_cons_zero, List.set_cons_succ]
        refine wpAnyH_done (by kernel_rfl) ?_ _
        clear hHeld
        go_wp2_with fail
        go_meet
        exact ⟨_, _, rfl, rfl, rfl, L8.out, L7.out, KP10.out, KB10.out, S10.out⟩
      refine AllReadyH.cons rfl (fun K hK => ?_) ?_
      · go_simp
        have S11 := Lib.hid (S1.out.alloc (.cells (cellsT zeroP) 30))
        have KP11 := Lib.hid (show PtBlk 30 (World.alloc z1 _) (World.heap z1).size zeroP from heap_alloc_new z1 (.cells (cellsT zeroP) 30))
        have L11 := Lib.hid (And.intro S1.out.below.size S1.out.pt.lt)
        refine hK.out _ _ S11.out (fun hHeld => ?_)
        clear hK
        try simp only [Act.put, List.getElem_toArray, List.getElem_cons_succ, List.getElem_cons_zero, List.setIfInBounds_toArray, List.set_cons_zero, List.set_cons_succ]
        refine wpAnyH_ready (rs := [2, 8]) (by kernel_rfl) (by simp) ?_
        refine AllReadyH.cons rfl (fun K hK => ?_) ?_
        · go_simp
          refine (CS.out _ S11.out.roles).mono ?_
          rintro e z12 ⟨rfl, hz⟩
          have S12 := Lib.hid (S11.out.next hz)
          have KP12 := Lib.hid (PtBlk.next (pt_drew' KP11.out) hz)
          clear hz hHeld
          go_simp
          refine hK.out _ _ S12.out (fun hHeld => ?_)
          clear hK
          try simp only [Act.put, List.getElem_toArray, List.getElem_cons_succ, List.getElem_cons_zero, List.setIfInBounds_toArray, List.set_cons_zero, List.set_cons_succ]
          refine wpAnyH_take (i := 3) (v := .tuple #[.agg (cellsT Q14), M14.val, .bool true]) rfl (by kernel_rfl) (by kernel_rfl) (by kernel_rfl) (fun _ _ _ h => h) (Or.inl ⟨by rfl, fun V h => by go_simp⟩) hHeld ?_
          try simp only [Act.put, List.getElem_toArray, List.getElem_cons_succ, List.getElem_cons_zero, List.setIfInBounds_toArray, List.set_cons_zero, List.set_cons_succ]
          refine wpAnyH_take (i := 4) (v := .agg (cellsT Q14)) rfl (by kernel_rfl) (by kernel_rfl) (by kernel_rfl) (fun _ _ _ h => h) (Or.inl ⟨by rfl, fun V h => by go_simp⟩) hHeld ?_
          try simp only [Act.put, List.getElem_toArray, List.getElem_cons_succ, List.getElem_cons_zero, List.setIfInBounds_toArray, List.set_cons_zero, List.set_cons_succ]
          refine wpAnyH_take (i := 5) (v := M14.val) rfl (by kernel_rfl) (by kernel_rfl) (by kernel_rfl) (fun _ _ _ h => h) (Or.inl ⟨by rfl, fun V h => by go_simp⟩) hHeld ?_
          try simp only [Act.put, List.getElem_toArray, List.getElem_cons_succ, List.getElem_cons_zero, List.setIfInBounds_toArray, List.set_cons_zero, List.set_cons_succ]
          refine wpAnyH_take (i := 6) (v := .bool true) rfl (by kernel_rfl) (by kernel_rfl) (by kernel_rfl) (fun _ _ _ h => h) (Or.inl ⟨by rfl, fun V h => by go_simp⟩) hHeld ?_
          try simp only [Act.put, List.getElem_toArray, List.getElem_cons_succ, List.getElem_cons_zero, List.setIfInBounds_toArray, List.set_cons_zero, List.set_cons_succ]
          refine wpAnyH_ready (rs := [8]) (by kernel_rfl) (by simp) ?_
          refine AllReadyH.cons rfl (fun K hK => ?_) AllReadyH.nil
          go_simp
          have S13 := Lib.hid (S12.out.alloc (.cells (cellsB zeroM) 34))
          have KB13 := Lib.hid (show BBlk 34 (World.alloc z12 _) (World.heap z12).size zeroM from heap_alloc_new z12 (.cells (cellsB zeroM) 34))
          have L13 := Lib.hid (And.intro S12.out.below.size S12.out.pt.lt)
          have N13 := Lib.hid (Nat.ne_of_lt KP12.out.lt)
          have KP13 := Lib.hid (pt_alloc KP12.out (.cells (cellsB zeroM) 34))
          refine hK.out _ _ S13.out (fun hHeld => ?_)
          clear hK
          try simp only [Act.put, List.getElem_toArray, List.getElem_cons_succ, List.getElem_cons_zero, List.setIfInBounds_toArray, List.set_cons_zero, List.set_cons_succ]
          refine wpAnyH_ready (rs := [9]) (by kernel_rfl) (by simp) ?_
          refine AllReadyH.cons rfl (fun K hK => ?_) AllReadyH.nil
          rw [if_pos (by kernel_rfl)]
          refine wp_store_row 30 _ _ rfl _ (cellsT Q14) rfl rfl 30 _ KP13.out infoSP rfl (cellsT_one _) ?_
          have S14 := Lib.hid (S13.out.row L11.out (cellsT Q14))
          have KP14 := Lib.hid (KP13.out.row Q14)
          have KB14 := Lib.hid (show BBlk 34 (World.setRow _ _ (cellsT Q14)) _ zeroM from (setRow_other _ _ _ _ (N13.out.symm)).trans KB13.out)
          refine hK.out _ _ S14.out (fun hHeld => ?_)
          clear hK
          try simp only [Act.put, List.getElem_toArray, List.getElem_cons_succ, List.getElem_cons_zero, List.setIfInBounds_toArray, List.set_cons_zero, List.set_cons_succ]
          refine wpAnyH_ready (rs := [10]) (by kernel_rfl) (by simp) ?_
          refine AllReadyH.cons rfl (fun K hK => ?_) AllReadyH.nil
          rw [if_pos (by kernel_rfl)]
          refine wp_store_row 34 _ _ rfl _ (cellsB M14) rfl rfl 34 _ KB14.out infoSB rfl (cellsB_one _) ?_
          have S15 := Lib.hid (S14.out.row L13.out (cellsB M14))
          have KP15 := Lib.hid (show PtBlk 30 (World.setRow _ _ (cellsB M14)) _ Q14 from (setRow_other _ _ _ _ (N13.out)).trans KP14.out)
          have KB15 := Lib.hid (KB14.out.row M14)
          refine hK.out _ _ S15.out (fun hHeld => ?_)
          clear hK
          try simp only [Act.put, List.getElem_toArray, List.getElem_cons_succ, List.getElem_cons_zero, List.setIfInBounds_toArray, List.set_cons_zero, List.set_cons_succ]
          refine wpAnyH_take (i := 11) (v := .bool true) rfl (by kernel_rfl) (by kernel_rfl) (by kernel_rfl) (fun _ _ _ h => h) (Or.inl ⟨by rfl, fun V h => by go_simp⟩) hHeld ?_
          try simp only [Act.put, List.getElem_toArray, List.getElem_cons_succ, List.getElem_cons_zero, List.setIfInBounds_toArray, List.set_cons_zero, List.set_cons_succ]
          refine wpAnyH_done (by kernel_rfl) ?_ _
          clear hHeld
          go_wp2_with fail
          go_meet
          exact ⟨_, _, rfl, rfl, rfl, L11.out, L13.out, KP15.out, KB15.out, S15.out⟩
        refine AllReadyH.cons rfl (fun K hK => ?_) AllReadyH.nil
        go_simp
        have S16 := Lib.hid (S11.out.alloc (.cells (cellsB zeroM) 34))
        have KB16 := Lib.hid (show BBlk 34 (World.alloc (World.alloc z1 (.cells (cellsT zeroP) 30)) _) ((World.heap z1).size + 1) zeroM by have h := heap_alloc_new (World.alloc z1 (.cells (cellsT zeroP) 30)) (.cells (cellsB zeroM) 34); rw [size_box] at h; exact h)
        have L16 := Lib.hid (by have a := S11.out.below.size; have b := S11.out.pt.lt; rw [size_box] at a b; exact And.intro a b)
        have N16 := Lib.hid (Nat.ne_of_lt (by have a := KP11.out.lt; rw [size_box] at a; exact a))
        have KP16 := Lib.hid (pt_alloc KP11.out (.cells (cellsB zeroM) 34))
        refine hK.out _ _ S16.out (fun hHeld => ?_)
        clear hK
        try simp only [Act.put, List.getElem_toArray, List.getElem_cons_succ, List.getElem_cons_zero, List.setIfInBounds_toArray, List.set_cons_zero, List.set_cons_succ]
        refine wpAnyH_ready (rs := [2]) (by kernel_rfl) (by simp) ?_
        refine AllReadyH.cons rfl (fun K hK => ?_) AllReadyH.nil
        go_simp
        refine (CS.out _ S16.out.roles).mono ?_
        rintro e z17 ⟨rfl, hz⟩
        have S17 := Lib.hid (S16.out.next hz)
        have KP17 := Lib.hid (PtBlk.next (pt_drew' KP16.out) hz)
        have KB17 := Lib.hid (BBlk.next (bp_drew' KB16.out) hz)
        clear hz hHeld
        go_simp
        refine hK.out _ _ S17.out (fun hHeld => ?_)
        clear hK
        try simp only [Act.put, List.getElem_toArray, List.getElem_cons_succ, List.getElem_cons_zero, List.setIfInBounds_toArray, List.set_cons_zero, List.set_cons_succ]
        refine wpAnyH_take (i := 3) (v := .tuple #[.agg (cellsT Q14), M14.val, .bool true]) rfl (by kernel_rfl) (by kernel_rfl) (by kernel_rfl) (fun _ _ _ h => h) (Or.inl ⟨by rfl, fun V h => by go_simp⟩) hHeld ?_
        try simp only [Act.put, List.getElem_toArray, List.getElem_cons_succ, List.getElem_cons_zero, List.setIfInBounds_toArray, List.set_cons_zero, List.set_cons_succ]
        refine wpAnyH_take (i := 4) (v := .agg (cellsT Q14)) rfl (by kernel_rfl) (by kernel_rfl) (by kernel_rfl) (fun _ _ _ h => h) (Or.inl ⟨by rfl, fun V h => by go_simp⟩) hHeld ?_
        try simp only [Act.put, List.getElem_toArray, List.getElem_cons_succ, List.getElem_cons_zero, List.setIfInBounds_toArray, List.set_cons_zero, List.set_cons_succ]
        refine wpAnyH_take (i := 5) (v := M14.val) rfl (by kernel_rfl) (by kernel_rfl) (by kernel_rfl) (fun _ _ _ h => h) (Or.inl ⟨by rfl, fun V h => by go_simp⟩) hHeld ?_
        try simp only [Act.put, List.getElem_toArray, List.getElem_cons_succ, List.getElem_cons_zero, List.setIfInBounds_toArray, List.set_cons_zero, List.set_cons_succ]
        refine wpAnyH_take (i := 6) (v := .bool true) rfl (by kernel_rfl) (by kernel_rfl) (by kernel_rfl) (fun _ _ _ h => h) (Or.inl ⟨by rfl, fun V h => by go_simp⟩) hHeld ?_
        try simp only [Act.put, List.getElem_toArray, List.getElem_cons_succ, List.getElem_cons_zero, List.setIfInBounds_toArray, List.set_cons_zero, List.set_cons_succ]
        refine wpAnyH_ready (rs := [9]) (by kernel_rfl) (by simp) ?_
        refine AllReadyH.cons rfl (fun K hK => ?_) AllReadyH.nil
        rw [if_pos (by kernel_rfl)]
        refine wp_store_row 30 _ _ rfl _ (cellsT Q14) rfl rfl 30 _ KP17.out infoSP rfl (cellsT_one _) ?_
        have S18 := Lib.hid (S17.out.row L11.out (cellsT Q14))
        have KP18 := Lib.hid (KP17.out.row Q14)
        have KB18 := Lib.hid (show BBlk 34 (World.setRow _ _ (cellsT Q14)) _ zeroM from (setRow_other _ _ _ _ (N16.out.symm)).trans KB17.out)
        refine hK.out _ _ S18.out (fun hHeld => ?_)
        clear hK
        try simp only [Act.put, List.getElem_toArray, List.getElem_cons_succ, List.getElem_cons_zero, List.setIfInBounds_toArray, List.set_cons_zero, List.set_cons_succ]
        refine wpAnyH_ready (rs := [10]) (by kernel_rfl) (by simp) ?_
        refine AllReadyH.cons rfl (fun K hK => ?_) AllReadyH.nil
        rw [if_pos (by kernel_rfl)]
        refine wp_store_row 34 _ _ rfl _ (cellsB M14) rfl rfl 34 _ KB18.out infoSB rfl (cellsB_one _) ?_
        have S19 := Lib.hid (S18.out.row L16.out (cellsB M14))
        have KP19 := Lib.hid (show PtBlk 30 (World.setRow _ _ (cellsB M14)) _ Q14 from (setRow_other _ _ _ _ (N16.out)).trans KP18.out)
        have KB19 := Lib.hid (KB18.out.row M14)
        refine hK.out _ _ S19.out (fun hHeld => ?_)
        clear hK
        try simp only [Act.put, List.getElem_toArray, List.getElem_cons_succ, List.getElem_cons_zero, List.setIfInBounds_toArray, List.set_cons_zero, List.set_cons_succ]
        refine wpAnyH_take (i := 11) (v := .bool true) rfl (by kernel_rfl) (by kernel_rfl) (by kernel_rfl) (fun _ _ _ h => h) (Or.inl ⟨by rfl, fun V h => by go_simp⟩) hHeld ?_
        try simp only [Act.put, List.getElem_toArray, List.getElem_cons_succ, List.getElem_cons_zero, List.setIfInBounds_toArray, List.set_cons_zero, List.set_cons_succ]
        refine wpAnyH_done (by kernel_rfl) ?_ _
        clear hHeld
        go_wp2_with fail
        go_meet
        exact ⟨_, _, rfl, rfl, rfl, L11.out, L16.out, KP19.out, KB19.out, S19.out⟩
      refine AllReadyH.cons rfl (fun K hK => ?_) AllReadyH.nil
      go_simp
      have S20 := Lib.hid (S1.out.alloc (.cells (cellsB zeroM) 34))
      have KB20 := Lib.hid (show BBlk 34 (World.alloc z1 _) (World.heap z1).size zeroM from heap_alloc_new z1 (.cells (cellsB zeroM) 34))
      have L20 := Lib.hid (And.intro S1.out.below.size S1.out.pt.lt)
      refine hK.out _ _ S20.out (fun hHeld => ?_)
      clear hK
      try simp only [Act.put, List.getElem_toArray, List.getElem_cons_succ, List.getElem_cons_zero, List.setIfInBounds_toArray, List.set_cons_zero, List.set_cons_succ]
      refine wpAnyH_ready (rs := [2, 7]) (by kernel_rfl) (by simp) ?_
      refine AllReadyH.cons rfl (fun K hK => ?_) ?_
      · go_simp
        refine (CS.out _ S20.out.roles).mono ?_
        rintro e z21 ⟨rfl, hz⟩
        have S21 := Lib.hid (S20.out.next hz)
        have KB21 := Lib.hid (BBlk.next (bp_drew' KB20.out) hz)
        clear hz hHeld
        go_simp
        refine hK.out _ _ S21.out (fun hHeld => ?_)
        clear hK
        try simp only [Act.put, List.getElem_toArray, List.getElem_cons_succ, List.getElem_cons_zero, List.setIfInBounds_toArray, List.set_cons_zero, List.set_cons_succ]
        refine wpAnyH_take (i := 3) (v := .tuple #[.agg (cellsT Q14), M14.val, .bool true]) rfl (by kernel_rfl) (by kernel_rfl) (by kernel_rfl) (fun _ _ _ h => h) (Or.inl ⟨by rfl, fun V h => by go_simp⟩) hHeld ?_
        try simp only [Act.put, List.getElem_toArray, List.getElem_cons_succ, List.getElem_cons_zero, List.setIfInBounds_toArray, List.set_cons_zero, List.set_cons_succ]
        refine wpAnyH_take (i := 4) (v := .agg (cellsT Q14)) rfl (by kernel_rfl) (by kernel_rfl) (by kernel_rfl) (fun _ _ _ h => h) (Or.inl ⟨by rfl, fun V h => by go_simp⟩) hHeld ?_
        try simp only [Act.put, List.getElem_toArray, List.getElem_cons_succ, List.getElem_cons_zero, List.setIfInBounds_toArray, List.set_cons_zero, List.set_cons_succ]
        refine wpAnyH_take (i := 5) (v := M14.val) rfl (by kernel_rfl) (by kernel_rfl) (by kernel_rfl) (fun _ _ _ h => h) (Or.inl ⟨by rfl, fun V h => by go_simp⟩) hHeld ?_
        try simp only [Act.put, List.getElem_toArray, List.getElem_cons_succ, List.getElem_cons_zero, List.setIfInBounds_toArray, List.set_cons_zero, List.set_cons_succ]
        refine wpAnyH_take (i := 6) (v := .bool true) rfl (by kernel_rfl) (by kernel_rfl) (by kernel_rfl) (fun _ _ _ h => h) (Or.inl ⟨by rfl, fun V h => by go_simp⟩) hHeld ?_
        try simp only [Act.put, List.getElem_toArray, List.getElem_cons_succ, List.getElem_cons_zero, List.setIfInBounds_toArray, List.set_cons_zero, List.set_cons_succ]
        refine wpAnyH_ready (rs := [7]) (by kernel_rfl) (by simp) ?_
        refine AllReadyH.cons rfl (fun K hK => ?_) AllReadyH.nil
        go_simp
        have S22 := Lib.hid (S21.out.alloc (.cells (cellsT zeroP) 30))
        have KP22 := Lib.hid (show PtBlk 30 (World.alloc z21 _) (World.heap z21).size zeroP from heap_alloc_new z21 (.cells (cellsT zeroP) 30))
        have L22 := Lib.hid (And.intro S21.out.below.size S21.out.pt.lt)
        have N22 := Lib.hid (Nat.ne_of_lt KB21.out.lt)
        have KB22 := Lib.hid (bp_alloc KB21.out (.cells (cellsT zeroP) 30))
        refine hK.out _ _ S22.out (fun hHeld => ?_)
        clear hK
        try simp only [Act.put, List.getElem_toArray, List.getElem_cons_succ, List.getElem_cons_zero, List.setIfInBounds_toArray, List.set_cons_zero, List.set_cons_succ]
        refine wpAnyH_ready (rs := [9]) (by kernel_rfl) (by simp) ?_
        refine AllReadyH.cons rfl (fun K hK => ?_) AllReadyH.nil
        rw [if_pos (by kernel_rfl)]
        refine wp_store_row 30 _ _ rfl _ (cellsT Q14) rfl rfl 30 _ KP22.out infoSP rfl (cellsT_one _) ?_
        have S23 := Lib.hid (S22.out.row L22.out (cellsT Q14))
        have KP23 := Lib.hid (KP22.out.row Q14)
        have KB23 := Lib.hid (show BBlk 34 (World.setRow _ _ (cellsT Q14)) _ zeroM from (setRow_other _ _ _ _ (N22.out)).trans KB22.out)
        refine hK.out _ _ S23.out (fun hHeld => ?_)
        clear hK
        try simp only [Act.put, List.getElem_toArray, List.getElem_cons_succ, List.getElem_cons_zero, List.setIfInBounds_toArray, List.set_cons_zero, List.set_cons_succ]
        refine wpAnyH_ready (rs := [10]) (by kernel_rfl) (by simp) ?_
        refine AllReadyH.cons rfl (fun K hK => ?_) AllReadyH.nil
        rw [if_pos (by kernel_rfl)]
        refine wp_store_row 34 _ _ rfl _ (cellsB M14) rfl rfl 34 _ KB23.out infoSB rfl (cellsB_one _) ?_
        have S24 := Lib.hid (S23.out.row L20.out (cellsB M14))
        have KP24 := Lib.hid (show PtBlk 30 (World.setRow _ _ (cellsB M14)) _ Q14 from (setRow_other _ _ _ _ (N22.out.symm)).trans KP23.out)
        have KB24 := Lib.hid (KB23.out.row M14)
        refine hK.out _ _ S24.out (fun hHeld => ?_)
        clear hK
        try simp only [Act.put, List.getElem_toArray, List.getElem_cons_succ, List.getElem_cons_zero, List.setIfInBounds_toArray, List.set_cons_zero, List.set_cons_succ]
        refine wpAnyH_take (i := 11) (v := .bool true) rfl (by kernel_rfl) (by kernel_rfl) (by kernel_rfl) (fun _ _ _ h => h) (Or.inl ⟨by rfl, fun V h => by go_simp⟩) hHeld ?_
        try simp only [Act.put, List.getElem_toArray, List.getElem_cons_succ, List.getElem_cons_zero, List.setIfInBounds_toArray, List.set_cons_zero, List.set_cons_succ]
        refine wpAnyH_done (by kernel_rfl) ?_ _
        clear hHeld
        go_wp2_with fail
        go_meet
        exact ⟨_, _, rfl, rfl, rfl, L22.out, L20.out, KP24.out, KB24.out, S24.out⟩
      refine AllReadyH.cons rfl (fun K hK => ?_) AllReadyH.nil
      go_simp
      have S25 := Lib.hid (S20.out.alloc (.cells (cellsT zeroP) 30))
      have KP25 := Lib.hid (show PtBlk 30 (World.alloc (World.alloc z1 (.cells (cellsB zeroM) 34)) _) ((World.heap z1).size + 1) zeroP by have h := heap_alloc_new (World.alloc z1 (.cells (cellsB zeroM) 34)) (.cells (cellsT zeroP) 30); rw [size_box] at h; exact h)
      have L25 := Lib.hid (by have a := S20.out.below.size; have b := S20.out.pt.lt; rw [size_box] at a b; exact And.intro a b)
      have N25 := Lib.hid (Nat.ne_of_lt (by have a := KB20.out.lt; rw [size_box] at a; exact a))
      have KB25 := Lib.hid (bp_alloc KB20.out (.cells (cellsT zeroP) 30))
      refine hK.out _ _ S25.out (fun hHeld => ?_)
      clear hK
      try simp only [Act.put, List.getElem_toArray, List.getElem_cons_succ, List.getElem_cons_zero, List.setIfInBounds_toArray, List.set_cons_zero, List.set_cons_succ]
      refine wpAnyH_ready (rs := [2]) (by kernel_rfl) (by simp) ?_
      refine AllReadyH.cons rfl (fun K hK => ?_) AllReadyH.nil
      go_simp
      refine (CS.out _ S25.out.roles).mono ?_
      rintro e z26 ⟨rfl, hz⟩
      have S26 := Lib.hid (S25.out.next hz)
      have KP26 := Lib.hid (PtBlk.next (pt_drew' KP25.out) hz)
      have KB26 := Lib.hid (BBlk.next (bp_drew' KB25.out) hz)
      clear hz hHeld
      go_simp
      refine hK.out _ _ S26.out (fun hHeld => ?_)
      clear hK
      try simp only [Act.put, List.getElem_toArray, List.getElem_cons_succ, List.getElem_cons_zero, List.setIfInBounds_toArray, List.set_cons_zero, List.set_cons_succ]
      refine wpAnyH_take (i := 3) (v := .tuple #[.agg (cellsT Q14), M14.val, .bool true]) rfl (by kernel_rfl) (by kernel_rfl) (by kernel_rfl) (fun _ _ _ h => h) (Or.inl ⟨by rfl, fun V h => by go_simp⟩) hHeld ?_
      try simp only [Act.put, List.getElem_toArray, List.getElem_cons_succ, List.getElem_cons_zero, List.setIfInBounds_toArray, List.set_cons_zero, List.set_cons_succ]
      refine wpAnyH_take (i := 4) (v := .agg (cellsT Q14)) rfl (by kernel_rfl) (by kernel_rfl) (by kernel_rfl) (fun _ _ _ h => h) (Or.inl ⟨by rfl, fun V h => by go_simp⟩) hHeld ?_
      try simp only [Act.put, List.getElem_toArray, List.getElem_cons_succ, List.getElem_cons_zero, List.setIfInBounds_toArray, List.set_cons_zero, List.set_cons_succ]
      refine wpAnyH_take (i := 5) (v := M14.val) rfl (by kernel_rfl) (by kernel_rfl) (by kernel_rfl) (fun _ _ _ h => h) (Or.inl ⟨by rfl, fun V h => by go_simp⟩) hHeld ?_
      try simp only [Act.put, List.getElem_toArray, List.getElem_cons_succ, List.getElem_cons_zero, List.setIfInBounds_toArray, List.set_cons_zero, List.set_cons_succ]
      refine wpAnyH_take (i := 6) (v := .bool true) rfl (by kernel_rfl) (by kernel_rfl) (by kernel_rfl) (fun _ _ _ h => h) (Or.inl ⟨by rfl, fun V h => by go_simp⟩) hHeld ?_
      try simp only [Act.put, List.getElem_toArray, List.getElem_cons_succ, List.getElem_cons_zero, List.setIfInBounds_toArray, List.set_cons_zero, List.set_cons_succ]
      refine wpAnyH_ready (rs := [9]) (by kernel_rfl) (by simp) ?_
      refine AllReadyH.cons rfl (fun K hK => ?_) AllReadyH.nil
      rw [if_pos (by kernel_rfl)]
      refine wp_store_row 30 _ _ rfl _ (cellsT Q14) rfl rfl 30 _ KP26.out infoSP rfl (cellsT_one _) ?_
      have S27 := Lib.hid (S26.out.row L25.out (cellsT Q14))
      have KP27 := Lib.hid (KP26.out.row Q14)
      have KB27 := Lib.hid (show BBlk 34 (World.setRow _ _ (cellsT Q14)) _ zeroM from (setRow_other _ _ _ _ (N25.out)).trans KB26.out)
      refine hK.out _ _ S27.out (fun hHeld => ?_)
      clear hK
      try simp only [Act.put, List.getElem_toArray, List.getElem_cons_succ, List.getElem_cons_zero, List.setIfInBounds_toArray, List.set_cons_zero, List.set_cons_succ]
      refine wpAnyH_ready (rs := [10]) (by kernel_rfl) (by simp) ?_
      refine AllReadyH.cons rfl (fun K hK => ?_) AllReadyH.nil
      rw [if_pos (by kernel_rfl)]
      refine wp_store_row 34 _ _ rfl _ (cellsB M14) rfl rfl 34 _ KB27.out infoSB rfl (cellsB_one _) ?_
      have S28 := Lib.hid (S27.out.row L20.out (cellsB M14))
      have KP28 := Lib.hid (show PtBlk 30 (World.setRow _ _ (cellsB M14)) _ Q14 from (setRow_other _ _ _ _ (N25.out.symm)).trans KP27.out)
      have KB28 := Lib.hid (KB27.out.row M14)
      refine hK.out _ _ S28.out (fun hHeld => ?_)
      clear hK
      try simp only [Act.put, List.getElem_toArray, List.getElem_cons_succ, List.getElem_cons_zero, List.setIfInBounds_toArray, List.set_cons_zero, List.set_cons_succ]
      refine wpAnyH_take (i := 11) (v := .bool true) rfl (by kernel_rfl) (by kernel_rfl) (by kernel_rfl) (fun _ _ _ h => h) (Or.inl ⟨by rfl, fun V h => by go_simp⟩) hHeld ?_
      try simp only [Act.put, List.getElem_toArray, List.getElem_cons_succ, List.getElem_cons_zero, List.setIfInBounds_toArray, List.set_cons_zero, List.set_cons_succ]
      refine wpAnyH_done (by kernel_rfl) ?_ _
      clear hHeld
      go_wp2_with fail
      go_meet
      exact ⟨_, _, rfl, rfl, rfl, L25.out, L20.out, KP28.out, KB28.out, S28.out⟩
    refine AllReadyH.cons rfl (fun K hK => ?_) ?_
    · go_simp
      have S29 := Lib.hid (S0.out.alloc (.cells (cellsT zeroP) 30))
      have KP29 := Lib.hid (show PtBlk 30 (World.alloc W _) (World.heap W).size zeroP from heap_alloc_new W (.cells (cellsT zeroP) 30))
      have L29 := Lib.hid (And.intro S0.out.below.size S0.out.pt.lt)
      refine hK.out _ _ S29.out.drew (fun hHeld => ?_)
      clear hK
      try simp only [Act.put, List.getElem_toArray, List.getElem_cons_succ, List.getElem_cons_zero, List.setIfInBounds_toArray, List.set_cons_zero, List.set_cons_succ]
      refine wpAnyH_ready (rs := [0, 8]) (by kernel_rfl) (by simp) ?_
      refine AllReadyH.cons rfl (fun K hK => ?_) ?_
      · go_simp
        (with_reducible refine (CU.out _).mono ?_)
        rintro e z30 ⟨rfl, hz⟩
        have S30 := Lib.hid (S29.out.drew.next hz)
        have KP30 := Lib.hid (PtBlk.next (pt_drew KP29.out) hz)
        clear hz hHeld
        go_simp
        refine hK.out _ _ S30.out (fun hHeld => ?_)
        clear hK
        try simp only [Act.put, List.getElem_toArray, List.getElem_cons_succ, List.getElem_cons_zero, List.setIfInBounds_toArray, List.set_cons_zero, List.set_cons_succ]
        refine wpAnyH_ready (rs := [2, 8]) (by kernel_rfl) (by simp) ?_
        refine AllReadyH.cons rfl (fun K hK => ?_) ?_
        · go_simp
          (with_reducible refine (CS.out _ S30.out.roles).mono ?_)
          rintro e z31 ⟨rfl, hz⟩
          have S31 := Lib.hid (S30.out.next hz)
          have KP31 := Lib.hid (PtBlk.next (pt_drew' KP30.out) hz)
          clear hz hHeld
          go_simp
          refine hK.out _ _ S31.out (fun hHeld => ?_)
          clear hK
          try simp only [Act.put, List.getElem_toArray, List.getElem_cons_succ, List.getElem_cons_zero, List.setIfInBounds_toArray, List.set_cons_zero, List.set_cons_succ]
          refine wpAnyH_take (i := 3) (v := .tuple #[.agg (cellsT Q14), M14.val, .bool true]) rfl (by kernel_rfl) (by kernel_rfl) (by kernel_rfl) (fun _ _ _ h => h) (Or.inl ⟨by rfl, fun V h => by go_simp⟩) hHeld ?_
          try simp only [Act.put, List.getElem_toArray, List.getElem_cons_succ, List.getElem_cons_zero, List.setIfInBounds_toArray, List.set_cons_zero, List.set_cons_succ]
          refine wpAnyH_take (i := 4) (v := .agg (cellsT Q14)) rfl (by kernel_rfl) (by kernel_rfl) (by kernel_rfl) (fun _ _ _ h => h) (Or.inl ⟨by rfl, fun V h => by go_simp⟩) hHeld ?_
          try simp only [Act.put, List.getElem_toArray, List.getElem_cons_succ, List.getElem_cons_zero, List.setIfInBounds_toArray, List.set_cons_zero, List.set_cons_succ]
          refine wpAnyH_take (i := 5) (v := M14.val) rfl (by kernel_rfl) (by kernel_rfl) (by kernel_rfl) (fun _ _ _ h => h) (Or.inl ⟨by rfl, fun V h => by go_simp⟩) hHeld ?_
          try simp only [Act.put, List.getElem_toArray, List.getElem_cons_succ, List.getElem_cons_zero, List.setIfInBounds_toArray, List.set_cons_zero, List.set_cons_succ]
          refine wpAnyH_take (i := 6) (v := .bool true) rfl (by kernel_rfl) (by kernel_rfl) (by kernel_rfl) (fun _ _ _ h => h) (Or.inl ⟨by rfl, fun V h => by go_simp⟩) hHeld ?_
          try simp only [Act.put, List.getElem_toArray, List.getElem_cons_succ, List.getElem_cons_zero, List.setIfInBounds_toArray, List.set_cons_zero, List.set_cons_succ]
          refine wpAnyH_ready (rs := [8]) (by kernel_rfl) (by simp) ?_
          refine AllReadyH.cons rfl (fun K hK => ?_) AllReadyH.nil
          go_simp
          have S32 := Lib.hid (S31.out.alloc (.cells (cellsB zeroM) 34))
          have KB32 := Lib.hid (show BBlk 34 (World.alloc z31 _) (World.heap z31).size zeroM from heap_alloc_new z31 (.cells (cellsB zeroM) 34))
          have L32 := Lib.hid (And.intro S31.out.below.size S31.out.pt.lt)
          have N32 := Lib.hid (Nat.ne_of_lt KP31.out.lt)
          have KP32 := Lib.hid (pt_alloc KP31.out (.cells (cellsB zeroM) 34))
          refine hK.out _ _ S32.out (fun hHeld => ?_)
          clear hK
          try simp only [Act.put, List.getElem_toArray, List.getElem_cons_succ, List.getElem_cons_zero, List.setIfInBounds_toArray, List.set_cons_zero, List.set_cons_succ]
          refine wpAnyH_ready (rs := [9]) (by kernel_rfl) (by simp) ?_
          refine AllReadyH.cons rfl (fun K hK => ?_) AllReadyH.nil
          rw [if_pos (by kernel_rfl)]
          refine wp_store_row 30 _ _ rfl _ (cellsT Q14) rfl rfl 30 _ KP32.out infoSP rfl (cellsT_one _) ?_
          have S33 := Lib.hid (S32.out.row L29.out (cellsT Q14))
          have KP33 := Lib.hid (KP32.out.row Q14)
          have KB33 := Lib.hid (show BBlk 34 (World.setRow _ _ (cellsT Q14)) _ zeroM from (setRow_other _ _ _ _ (N32.out.symm)).trans KB32.out)
          refine hK.out _ _ S33.out (fun hHeld => ?_)
          clear hK
          try simp only [Act.put, List.getElem_toArray, List.getElem_cons_succ, List.getElem_cons_zero, List.setIfInBounds_toArray, List.set_cons_zero, List.set_cons_succ]
          refine wpAnyH_ready (rs := [10]) (by kernel_rfl) (by simp) ?_
          refine AllReadyH.cons rfl (fun K hK => ?_) AllReadyH.nil
          rw [if_pos (by kernel_rfl)]
          refine wp_store_row 34 _ _ rfl _ (cellsB M14) rfl rfl 34 _ KB33.out infoSB rfl (cellsB_one _) ?_
          have S34 := Lib.hid (S33.out.row L32.out (cellsB M14))
          have KP34 := Lib.hid (show PtBlk 30 (World.setRow _ _ (cellsB M14)) _ Q14 from (setRow_other _ _ _ _ (N32.out)).trans KP33.out)
          have KB34 := Lib.hid (KB33.out.row M14)
          refine hK.out _ _ S34.out (fun hHeld => ?_)
          clear hK
          try simp only [Act.put, List.getElem_toArray, List.getElem_cons_succ, List.getElem_cons_zero, List.setIfInBounds_toArray, List.set_cons_zero, List.set_cons_succ]
          refine wpAnyH_take (i := 11) (v := .bool true) rfl (by kernel_rfl) (by kernel_rfl) (by kernel_rfl) (fun _ _ _ h => h) (Or.inl ⟨by rfl, fun V h => by go_simp⟩) hHeld ?_
          try simp only [Act.put, List.getElem_toArray, List.getElem_cons_succ, List.getElem_cons_zero, List.setIfInBounds_toArray, List.set_cons_zero, List.set_cons_succ]
          refine wpAnyH_done (by kernel_rfl) ?_ _
          clear hHeld
          go_wp2_with fail
          go_meet
          exact ⟨_, _, rfl, rfl, rfl, L29.out, L32.out, KP34.out, KB34.out, S34.out⟩
        refine AllReadyH.cons rfl (fun K hK => ?_) AllReadyH.nil
        go_simp
        have S35 := Lib.hid (S30.out.alloc (.cells (cellsB zeroM) 34))
        have KB35 := Lib.hid (show BBlk 34 (World.alloc z30 _) (World.heap z30).size zeroM from heap_alloc_new z30 (.cells (cellsB zeroM) 34))
        have L35 := Lib.hid (And.intro S30.out.below.size S30.out.pt.lt)
        have N35 := Lib.hid (Nat.ne_of_lt KP30.out.lt)
        have KP35 := Lib.hid (pt_alloc KP30.out (.cells (cellsB zeroM) 34))
        refine hK.out _ _ S35.out (fun hHeld => ?_)
        clear hK
        try simp only [Act.put, List.getElem_toArray, List.getElem_cons_succ, List.getElem_cons_zero, List.setIfInBounds_toArray, List.set_cons_zero, List.set_cons_succ]
        refine wpAnyH_ready (rs := [2]) (by kernel_rfl) (by simp) ?_
        refine AllReadyH.cons rfl (fun K hK => ?_) AllReadyH.nil
        go_simp
        refine (CS.out _ S35.out.roles).mono ?_
        rintro e z36 ⟨rfl, hz⟩
        have S36 := Lib.hid (S35.out.next hz)
        have KP36 := Lib.hid (PtBlk.next (pt_drew' KP35.out) hz)
        have KB36 := Lib.hid (BBlk.next (bp_drew' KB35.out) hz)
        clear hz hHeld
        go_simp
        refine hK.out _ _ S36.out (fun hHeld => ?_)
        clear hK
        try simp only [Act.put, List.getElem_toArray, List.getElem_cons_succ, List.getElem_cons_zero, List.setIfInBounds_toArray, List.set_cons_zero, List.set_cons_succ]
        refine wpAnyH_take (i := 3) (v := .tuple #[.agg (cellsT Q14), M14.val, .bool true]) rfl (by kernel_rfl) (by kernel_rfl) (by kernel_rfl) (fun _ _ _ h => h) (Or.inl ⟨by rfl, fun V h => by go_simp⟩) hHeld ?_
        try simp only [Act.put, List.getElem_toArray, List.getElem_cons_succ, List.getElem_cons_zero, List.setIfInBounds_toArray, List.set_cons_zero, List.set_cons_succ]
        refine wpAnyH_take (i := 4) (v := .agg (cellsT Q14)) rfl (by kernel_rfl) (by kernel_rfl) (by kernel_rfl) (fun _ _ _ h => h) (Or.inl ⟨by rfl, fun V h => by go_simp⟩) hHeld ?_
        try simp only [Act.put, List.getElem_toArray, List.getElem_cons_succ, List.getElem_cons_zero, List.setIfInBounds_toArray, List.set_cons_zero, List.set_cons_succ]
        refine wpAnyH_take (i := 5) (v := M14.val) rfl (by kernel_rfl) (by kernel_rfl) (by kernel_rfl) (fun _ _ _ h => h) (Or.inl ⟨by rfl, fun V h => by go_simp⟩) hHeld ?_
        try simp only [Act.put, List.getElem_toArray, List.getElem_cons_succ, List.getElem_cons_zero, List.setIfInBounds_toArray, List.set_cons_zero, List.set_cons_succ]
        refine wpAnyH_take (i := 6) (v := .bool true) rfl (by kernel_rfl) (by kernel_rfl) (by kernel_rfl) (fun _ _ _ h => h) (Or.inl ⟨by rfl, fun V h => by go_simp⟩) hHeld ?_
        try simp only [Act.put, List.getElem_toArray, List.getElem_cons_succ, List.getElem_cons_zero, List.setIfInBounds_toArray, List.set_cons_zero, List.set_cons_succ]
        refine wpAnyH_ready (rs := [9]) (by kernel_rfl) (by simp) ?_
        refine AllReadyH.cons rfl (fun K hK => ?_) AllReadyH.nil
        rw [if_pos (by kernel_rfl)]
        refine wp_store_row 30 _ _ rfl _ (cellsT Q14) rfl rfl 30 _ KP36.out infoSP rfl (cellsT_one _) ?_
        have S37 := Lib.hid (S36.out.row L29.out (cellsT Q14))
        have KP37 := Lib.hid (KP36.out.row Q14)
        have KB37 := Lib.hid (show BBlk 34 (World.setRow _ _ (cellsT Q14)) _ zeroM from (setRow_other _ _ _ _ (N35.out.symm)).trans KB36.out)
        refine hK.out _ _ S37.out (fun hHeld => ?_)
        clear hK
        try simp only [Act.put, List.getElem_toArray, List.getElem_cons_succ, List.getElem_cons_zero, List.setIfInBounds_toArray, List.set_cons_zero, List.set_cons_succ]
        refine wpAnyH_ready (rs := [10]) (by kernel_rfl) (by simp) ?_
        refine AllReadyH.cons rfl (fun K hK => ?_) AllReadyH.nil
        rw [if_pos (by kernel_rfl)]
        refine wp_store_row 34 _ _ rfl _ (cellsB M14) rfl rfl 34 _ KB37.out infoSB rfl (cellsB_one _) ?_
        have S38 := Lib.hid (S37.out.row L35.out (cellsB M14))
        have KP38 := Lib.hid (show PtBlk 30 (World.setRow _ _ (cellsB M14)) _ Q14 from (setRow_other _ _ _ _ (N35.out)).trans KP37.out)
        have KB38 := Lib.hid (KB37.out.row M14)
        refine hK.out _ _ S38.out (fun hHeld => ?_)
        clear hK
        try simp only [Act.put, List.getElem_toArray, List.getElem_cons_succ, List.getElem_cons_zero, List.setIfInBounds_toArray, List.set_cons_zero, List.set_cons_succ]
        refine wpAnyH_take (i := 11) (v := .bool true) rfl (by kernel_rfl) (by kernel_rfl) (by kernel_rfl) (fun _ _ _ h => h) (Or.inl ⟨by rfl, fun V h => by go_simp⟩) hHeld ?_
        try simp only [Act.put, List.getElem_toArray, List.getElem_cons_succ, List.getElem_cons_zero, List.setIfInBounds_toArray, List.set_cons_zero, List.set_cons_succ]
        refine wpAnyH_done (by kernel_rfl) ?_ _
        clear hHeld
        go_wp2_with fail
        go_meet
        exact ⟨_, _, rfl, rfl, rfl, L29.out, L35.out, KP38.out, KB38.out, S38.out⟩
      refine AllReadyH.cons rfl (fun K hK => ?_) AllReadyH.nil
      go_simp
      have S39 := Lib.hid (S29.out.alloc (.cells (cellsB zeroM) 34))
      have KB39 := Lib.hid (show BBlk 34 (World.alloc (World.alloc W (.cells (cellsT zeroP) 30)) _) ((World.heap W).size + 1) zeroM by have h := heap_alloc_new (World.alloc W (.cells (cellsT zeroP) 30)) (.cells (cellsB zeroM) 34); rw [size_box] at h; exact h)
      have L39 := Lib.hid (by have a := S29.out.below.size; have b := S29.out.pt.lt; rw [size_box] at a b; exact And.intro a b)
      have N39 := Lib.hid (Nat.ne_of_lt (by have a := KP29.out.lt; rw [size_box] at a; exact a))
      have KP39 := Lib.hid (pt_alloc KP29.out (.cells (cellsB zeroM) 34))
      refine hK.out _ _ S39.out.drew (fun hHeld => ?_)
      clear hK
      try simp only [Act.put, List.getElem_toArray, List.getElem_cons_succ, List.getElem_cons_zero, List.setIfInBounds_toArray, List.set_cons_zero, List.set_cons_succ]
      refine wpAnyH_ready (rs := [0]) (by kernel_rfl) (by simp) ?_
      refine AllReadyH.cons rfl (fun K hK => ?_) AllReadyH.nil
      go_simp
      (with_reducible refine (CU.out _).mono ?_)
      rintro e z40 ⟨rfl, hz⟩
      have S40 := Lib.hid (S39.out.drew.next hz)
      have KP40 := Lib.hid (PtBlk.next (pt_drew KP39.out) hz)
      have KB40 := Lib.hid (BBlk.next (bp_drew KB39.out) hz)
      clear hz hHeld
      go_simp
      refine hK.out _ _ S40.out (fun hHeld => ?_)
      clear hK
      try simp only [Act.put, List.getElem_toArray, List.getElem_cons_succ, List.getElem_cons_zero, List.setIfInBounds_toArray, List.set_cons_zero, List.set_cons_succ]
      refine wpAnyH_ready (rs := [2]) (by kernel_rfl) (by simp) ?_
      refine AllReadyH.cons rfl (fun K hK => ?_) AllReadyH.nil
      go_simp
      (with_reducible refine (CS.out _ S40.out.roles).mono ?_)
      rintro e z41 ⟨rfl, hz⟩
      have S41 := Lib.hid (S40.out.next hz)
      have KP41 := Lib.hid (PtBlk.next (pt_drew' KP40.out) hz)
      have KB41 := Lib.hid (BBlk.next (bp_drew' KB40.out) hz)
      clear hz hHeld
      go_simp
      refine hK.out _ _ S41.out (fun hHeld => ?_)
      clear hK
      try simp only [Act.put, List.getElem_toArray, List.getElem_cons_succ, List.getElem_cons_zero, List.setIfInBounds_toArray, List.set_cons_zero, List.set_cons_succ]
      refine wpAnyH_take (i := 3) (v := .tuple #[.agg (cellsT Q14), M14.val, .bool true]) rfl (by kernel_rfl) (by kernel_rfl) (by kernel_rfl) (fun _ _ _ h => h) (Or.inl ⟨by rfl, fun V h => by go_simp⟩) hHeld ?_
      try simp only [Act.put, List.getElem_toArray, List.getElem_cons_succ, List.getElem_cons_zero, List.setIfInBounds_toArray, List.set_cons_zero, List.set_cons_succ]
      refine wpAnyH_take (i := 4) (v := .agg (cellsT Q14)) rfl (by kernel_rfl) (by kernel_rfl) (by kernel_rfl) (fun _ _ _ h => h) (Or.inl ⟨by rfl, fun V h => by go_simp⟩) hHeld ?_
      try simp only [Act.put, List.getElem_toArray, List.getElem_cons_succ, List.getElem_cons_zero, List.setIfInBounds_toArray, List.set_cons_zero, List.set_cons_succ]
      refine wpAnyH_take (i := 5) (v := M14.val) rfl (by kernel_rfl) (by kernel_rfl) (by kernel_rfl) (fun _ _ _ h => h) (Or.inl ⟨by rfl, fun V h => by go_simp⟩) hHeld ?_
      try simp only [Act.put, List.getElem_toArray, List.getElem_cons_succ, List.getElem_cons_zero, List.setIfInBounds_toArray, List.set_cons_zero, List.set_cons_succ]
      refine wpAnyH_take (i := 6) (v := .bool true) rfl (by kernel_rfl) (by kernel_rfl) (by kernel_rfl) (fun _ _ _ h => h) (Or.inl ⟨by rfl, fun V h => by go_simp⟩) hHeld ?_
      try simp only [Act.put, List.getElem_toArray, List.getElem_cons_succ, List.getElem_cons_zero, List.setIfInBounds_toArray, List.set_cons_zero, List.set_cons_succ]
      refine wpAnyH_ready (rs := [9]) (by kernel_rfl) (by simp) ?_
      refine AllReadyH.cons rfl (fun K hK => ?_) AllReadyH.nil
      rw [if_pos (by kernel_rfl)]
      refine wp_store_row 30 _ _ rfl _ (cellsT Q14) rfl rfl 30 _ KP41.out infoSP rfl (cellsT_one _) ?_
      have S42 := Lib.hid (S41.out.row L29.out (cellsT Q14))
      have KP42 := Lib.hid (KP41.out.row Q14)
      have KB42 := Lib.hid (show BBlk 34 (World.setRow _ _ (cellsT Q14)) _ zeroM from (setRow_other _ _ _ _ (N39.out.symm)).trans KB41.out)
      refine hK.out _ _ S42.out (fun hHeld => ?_)
      clear hK
      try simp only [Act.put, List.getElem_toArray, List.getElem_cons_succ, List.getElem_cons_zero, List.setIfInBounds_toArray, List.set_cons_zero, List.set_cons_succ]
      refine wpAnyH_ready (rs := [10]) (by kernel_rfl) (by simp) ?_
      refine AllReadyH.cons rfl (fun K hK => ?_) AllReadyH.nil
      rw [if_pos (by kernel_rfl)]
      refine wp_store_row 34 _ _ rfl _ (cellsB M14) rfl rfl 34 _ KB42.out infoSB rfl (cellsB_one _) ?_
      have S43 := Lib.hid (S42.out.row L39.out (cellsB M14))
      have KP43 := Lib.hid (show PtBlk 30 (World.setRow _ _ (cellsB M14)) _ Q14 from (setRow_other _ _ _ _ (N39.out)).trans KP42.out)
      have KB43 := Lib.hid (KB42.out.row M14)
      refine hK.out _ _ S43.out (fun hHeld => ?_)
      clear hK
      try simp only [Act.put, List.getElem_toArray, List.getElem_cons_succ, List.getElem_cons_zero, List.setIfInBounds_toArray, List.set_cons_zero, List.set_cons_succ]
      refine wpAnyH_take (i := 11) (v := .bool true) rfl (by kernel_rfl) (by kernel_rfl) (by kernel_rfl) (fun _ _ _ h => h) (Or.inl ⟨by rfl, fun V h => by go_simp⟩) hHeld ?_
      try simp only [Act.put, List.getElem_toArray, List.getElem_cons_succ, List.getElem_cons_zero, List.setIfInBounds_toArray, List.set_cons_zero, List.set_cons_succ]
      refine wpAnyH_done (by kernel_rfl) ?_ _
      clear hHeld
      go_wp2_with fail
      go_meet
      exact ⟨_, _, rfl, rfl, rfl, L29.out, L39.out, KP43.out, KB43.out, S43.out⟩
    refine AllReadyH.cons rfl (fun K hK => ?_) AllReadyH.nil
    go_simp
    have S44 := Lib.hid (S0.out.alloc (.cells (cellsB zeroM) 34))
    have KB44 := Lib.hid (show BBlk 34 (World.alloc W _) (World.heap W).size zeroM from heap_alloc_new W (.cells (cellsB zeroM) 34))
    have L44 := Lib.hid (And.intro S0.out.below.size S0.out.pt.lt)
    refine hK.out _ _ S44.out.drew (fun hHeld => ?_)
    clear hK
    try simp only [Act.put, List.getElem_toArray, List.getElem_cons_succ, List.getElem_cons_zero, List.setIfInBounds_toArray, List.set_cons_zero, List.set_cons_succ]
    refine wpAnyH_ready (rs := [0, 7]) (by kernel_rfl) (by simp) ?_
    refine AllReadyH.cons rfl (fun K hK => ?_) ?_
    · go_simp
      (with_reducible refine (CU.out _).mono ?_)
      rintro e z45 ⟨rfl, hz⟩
      have S45 := Lib.hid (S44.out.drew.next hz)
      have KB45 := Lib.hid (BBlk.next (bp_drew KB44.out) hz)
      clear hz hHeld
      go_simp
      refine hK.out _ _ S45.out (fun hHeld => ?_)
      clear hK
      try simp only [Act.put, List.getElem_toArray, List.getElem_cons_succ, List.getElem_cons_zero, List.setIfInBounds_toArray, List.set_cons_zero, List.set_cons_succ]
      refine wpAnyH_ready (rs := [2, 7]) (by kernel_rfl) (by simp) ?_
      refine AllReadyH.cons rfl (fun K hK => ?_) ?_
      · go_simp
        (with_reducible refine (CS.out _ S45.out.roles).mono ?_)
        rintro e z46 ⟨rfl, hz⟩
        have S46 := Lib.hid (S45.out.next hz)
        have KB46 := Lib.hid (BBlk.next (bp_drew' KB45.out) hz)
        clear hz hHeld
        go_simp
        refine hK.out _ _ S46.out (fun hHeld => ?_)
        clear hK
        try simp only [Act.put, List.getElem_toArray, List.getElem_cons_succ, List.getElem_cons_zero, List.setIfInBounds_toArray, List.set_cons_zero, List.set_cons_succ]
        refine wpAnyH_take (i := 3) (v := .tuple #[.agg (cellsT Q14), M14.val, .bool true]) rfl (by kernel_rfl) (by kernel_rfl) (by kernel_rfl) (fun _ _ _ h => h) (Or.inl ⟨by rfl, fun V h => by go_simp⟩) hHeld ?_
        try simp only [Act.put, List.getElem_toArray, List.getElem_cons_succ, List.getElem_cons_zero, List.setIfInBounds_toArray, List.set_cons_zero, List.set_cons_succ]
        refine wpAnyH_take (i := 4) (v := .agg (cellsT Q14)) rfl (by kernel_rfl) (by kernel_rfl) (by kernel_rfl) (fun _ _ _ h => h) (Or.inl ⟨by rfl, fun V h => by go_simp⟩) hHeld ?_
        try simp only [Act.put, List.getElem_toArray, List.getElem_cons_succ, List.getElem_cons_zero, List.setIfInBounds_toArray, List.set_cons_zero, List.set_cons_succ]
        refine wpAnyH_take (i := 5) (v := M14.val) rfl (by kernel_rfl) (by kernel_rfl) (by kernel_rfl) (fun _ _ _ h => h) (Or.inl ⟨by rfl, fun V h => by go_simp⟩) hHeld ?_
        try simp only [Act.put, List.getElem_toArray, List.getElem_cons_succ, List.getElem_cons_zero, List.setIfInBounds_toArray, List.set_cons_zero, List.set_cons_succ]
        refine wpAnyH_take (i := 6) (v := .bool true) rfl (by kernel_rfl) (by kernel_rfl) (by kernel_rfl) (fun _ _ _ h => h) (Or.inl ⟨by rfl, fun V h => by go_simp⟩) hHeld ?_
        try simp only [Act.put, List.getElem_toArray, List.getElem_cons_succ, List.getElem_cons_zero, List.setIfInBounds_toArray, List.set_cons_zero, List.set_cons_succ]
        refine wpAnyH_ready (rs := [7]) (by kernel_rfl) (by simp) ?_
        refine AllReadyH.cons rfl (fun K hK => ?_) AllReadyH.nil
        go_simp
        have S47 := Lib.hid (S46.out.alloc (.cells (cellsT zeroP) 30))
        have KP47 := Lib.hid (show PtBlk 30 (World.alloc z46 _) (World.heap z46).size zeroP from heap_alloc_new z46 (.cells (cellsT zeroP) 30))
        have L47 := Lib.hid (And.intro S46.out.below.size S46.out.pt.lt)
        have N47 := Lib.hid (Nat.ne_of_lt KB46.out.lt)
        have KB47 := Lib.hid (bp_alloc KB46.out (.cells (cellsT zeroP) 30))
        refine hK.out _ _ S47.out (fun hHeld => ?_)
        clear hK
        try simp only [Act.put, List.getElem_toArray, List.getElem_cons_succ, List.getElem_cons_zero, List.setIfInBounds_toArray, List.set_cons_zero, List.set_cons_succ]
        refine wpAnyH_ready (rs := [9]) (by kernel_rfl) (by simp) ?_
        refine AllReadyH.cons rfl (fun K hK => ?_) AllReadyH.nil
        rw [if_pos (by kernel_rfl)]
        refine wp_store_row 30 _ _ rfl _ (cellsT Q14) rfl rfl 30 _ KP47.out infoSP rfl (cellsT_one _) ?_
        have S48 := Lib.hid (S47.out.row L47.out (cellsT Q14))
        have KP48 := Lib.hid (KP47.out.row Q14)
        have KB48 := Lib.hid (show BBlk 34 (World.setRow _ _ (cellsT Q14)) _ zeroM from (setRow_other _ _ _ _ (N47.out)).trans KB47.out)
        refine hK.out _ _ S48.out (fun hHeld => ?_)
        clear hK
        try simp only [Act.put, List.getElem_toArray, List.getElem_cons_succ, List.getElem_cons_zero, List.setIfInBounds_toArray, List.set_cons_zero, List.set_cons_succ]
        refine wpAnyH_ready (rs := [10]) (by kernel_rfl) (by simp) ?_
        refine AllReadyH.cons rfl (fun K hK => ?_) AllReadyH.nil
        rw [if_pos (by kernel_rfl)]
        refine wp_store_row 34 _ _ rfl _ (cellsB M14) rfl rfl 34 _ KB48.out infoSB rfl (cellsB_one _) ?_
        have S49 := Lib.hid (S48.out.row L44.out (cellsB M14))
        have KP49 := Lib.hid (show PtBlk 30 (World.setRow _ _ (cellsB M14)) _ Q14 from (setRow_other _ _ _ _ (N47.out.symm)).trans KP48.out)
        have KB49 := Lib.hid (KB48.out.row M14)
        refine hK.out _ _ S49.out (fun hHeld => ?_)
        clear hK
        try simp only [Act.put, List.getElem_toArray, List.getElem_cons_succ, List.getElem_cons_zero, List.setIfInBounds_toArray, List.set_cons_zero, List.set_cons_succ]
        refine wpAnyH_take (i := 11) (v := .bool true) rfl (by kernel_rfl) (by kernel_rfl) (by kernel_rfl) (fun _ _ _ h => h) (Or.inl ⟨by rfl, fun V h => by go_simp⟩) hHeld ?_
        try simp only [Act.put, List.getElem_toArray, List.getElem_cons_succ, List.getElem_cons_zero, List.setIfInBounds_toArray, List.set_cons_zero, List.set_cons_succ]
        refine wpAnyH_done (by kernel_rfl) ?_ _
        clear hHeld
        go_wp2_with fail
        go_meet
        exact ⟨_, _, rfl, rfl, rfl, L47.out, L44.out, KP49.out, KB49.out, S49.out⟩
      refine AllReadyH.cons rfl (fun K hK => ?_) AllReadyH.nil
      go_simp
      have S50 := Lib.hid (S45.out.alloc (.cells (cellsT zeroP) 30))
      have KP50 := Lib.hid (show PtBlk 30 (World.alloc z45 _) (World.heap z45).size zeroP from heap_alloc_new z45 (.cells (cellsT zeroP) 30))
      have L50 := Lib.hid (And.intro S45.out.below.size S45.out.pt.lt)
      have N50 := Lib.hid (Nat.ne_of_lt KB45.out.lt)
      have KB50 := Lib.hid (bp_alloc KB45.out (.cells (cellsT zeroP) 30))
      refine hK.out _ _ S50.out (fun hHeld => ?_)
      clear hK
      try simp only [Act.put, List.getElem_toArray, List.getElem_cons_succ, List.getElem_cons_zero, List.setIfInBounds_toArray, List.set_cons_zero, List.set_cons_succ]
      refine wpAnyH_ready (rs := [2]) (by kernel_rfl) (by simp) ?_
      refine AllReadyH.cons rfl (fun K hK => ?_) AllReadyH.nil
      go_simp
      refine (CS.out _ S50.out.roles).mono ?_
      rintro e z51 ⟨rfl, hz⟩
      have S51 := Lib.hid (S50.out.next hz)
      have KP51 := Lib.hid (PtBlk.next (pt_drew' KP50.out) hz)
      have KB51 := Lib.hid (BBlk.next (bp_drew' KB50.out) hz)
      clear hz hHeld
      go_simp
      refine hK.out _ _ S51.out (fun hHeld => ?_)
      clear hK
      try simp only [Act.put, List.getElem_toArray, List.getElem_cons_succ, List.getElem_cons_zero, List.setIfInBounds_toArray, List.set_cons_zero, List.set_cons_succ]
      refine wpAnyH_take (i := 3) (v := .tuple #[.agg (cellsT Q14), M14.val, .bool true]) rfl (by kernel_rfl) (by kernel_rfl) (by kernel_rfl) (fun _ _ _ h => h) (Or.inl ⟨by rfl, fun V h => by go_simp⟩) hHeld ?_
      try simp only [Act.put, List.getElem_toArray, List.getElem_cons_succ, List.getElem_cons_zero, List.setIfInBounds_toArray, List.set_cons_zero, List.set_cons_succ]
      refine wpAnyH_take (i := 4) (v := .agg (cellsT Q14)) rfl (by kernel_rfl) (by kernel_rfl) (by kernel_rfl) (fun _ _ _ h => h) (Or.inl ⟨by rfl, fun V h => by go_simp⟩) hHeld ?_
      try simp only [Act.put, List.getElem_toArray, List.getElem_cons_succ, List.getElem_cons_zero, List.setIfInBounds_toArray, List.set_cons_zero, List.set_cons_succ]
      refine wpAnyH_take (i := 5) (v := M14.val) rfl (by kernel_rfl) (by kernel_rfl) (by kernel_rfl) (fun _ _ _ h => h) (Or.inl ⟨by rfl, fun V h => by go_simp⟩) hHeld ?_
      try simp only [Act.put, List.getElem_toArray, List.getElem_cons_succ, List.getElem_cons_zero, List.setIfInBounds_toArray, List.set_cons_zero, List.set_cons_succ]
      refine wpAnyH_take (i := 6) (v := .bool true) rfl (by kernel_rfl) (by kernel_rfl) (by kernel_rfl) (fun _ _ _ h => h) (Or.inl ⟨by rfl, fun V h => by go_simp⟩) hHeld ?_
      try simp only [Act.put, List.getElem_toArray, List.getElem_cons_succ, List.getElem_cons_zero, List.setIfInBounds_toArray, List.set_cons_zero, List.set_cons_succ]
      refine wpAnyH_ready (rs := [9]) (by kernel_rfl) (by simp) ?_
      refine AllReadyH.cons rfl (fun K hK => ?_) AllReadyH.nil
      rw [if_pos (by kernel_rfl)]
      refine wp_store_row 30 _ _ rfl _ (cellsT Q14) rfl rfl 30 _ KP51.out infoSP rfl (cellsT_one _) ?_
      have S52 := Lib.hid (S51.out.row L50.out (cellsT Q14))
      have KP52 := Lib.hid (KP51.out.row Q14)
      have KB52 := Lib.hid (show BBlk 34 (World.setRow _ _ (cellsT Q14)) _ zeroM from (setRow_other _ _ _ _ (N50.out)).trans KB51.out)
      refine hK.out _ _ S52.out (fun hHeld => ?_)
      clear hK
      try simp only [Act.put, List.getElem_toArray, List.getElem_cons_succ, List.getElem_cons_zero, List.setIfInBounds_toArray, List.set_cons_zero, List.set_cons_succ]
      refine wpAnyH_ready (rs := [10]) (by kernel_rfl) (by simp) ?_
      refine AllReadyH.cons rfl (fun K hK => ?_) AllReadyH.nil
      rw [if_pos (by kernel_rfl)]
      refine wp_store_row 34 _ _ rfl _ (cellsB M14) rfl rfl 34 _ KB52.out infoSB rfl (cellsB_one _) ?_
      have S53 := Lib.hid (S52.out.row L44.out (cellsB M14))
      have KP53 := Lib.hid (show PtBlk 30 (World.setRow _ _ (cellsB M14)) _ Q14 from (setRow_other _ _ _ _ (N50.out.symm)).trans KP52.out)
      have KB53 := Lib.hid (KB52.out.row M14)
      refine hK.out _ _ S53.out (fun hHeld => ?_)
      clear hK
      try simp only [Act.put, List.getElem_toArray, List.getElem_cons_succ, List.getElem_cons_zero, List.setIfInBounds_toArray, List.set_cons_zero, List.set_cons_succ]
      refine wpAnyH_take (i := 11) (v := .bool true) rfl (by kernel_rfl) (by kernel_rfl) (by kernel_rfl) (fun _ _ _ h => h) (Or.inl ⟨by rfl, fun V h => by go_simp⟩) hHeld ?_
      try simp only [Act.put, List.getElem_toArray, List.getElem_cons_succ, List.getElem_cons_zero, List.setIfInBounds_toArray, List.set_cons_zero, List.set_cons_succ]
      refine wpAnyH_done (by kernel_rfl) ?_ _
      clear hHeld
      go_wp2_with fail
      go_meet
      exact ⟨_, _, rfl, rfl, rfl, L50.out, L44.out, KP53.out, KB53.out, S53.out⟩
    refine AllReadyH.cons rfl (fun K hK => ?_) AllReadyH.nil
    go_simp
    have S54 := Lib.hid (S44.out.alloc (.cells (cellsT zeroP) 30))
    have KP54 := Lib.hid (show PtBlk 30 (World.alloc (World.alloc W (.cells (cellsB zeroM) 34)) _) ((World.heap W).size + 1) zeroP by have h := heap_alloc_new (World.alloc W (.cells (cellsB zeroM) 34)) (.cells (cellsT zeroP) 30); rw [size_box] at h; exact h)
    have L54 := Lib.hid (by have a := S44.out.below.size; have b := S44.out.pt.lt; rw [size_box] at a b; exact And.intro a b)
    have N54 := Lib.hid (Nat.ne_of_lt (by have a := KB44.out.lt; rw [size_box] at a; exact a))
    have KB54 := Lib.hid (bp_alloc KB44.out (.cells (cellsT zeroP) 30))
    refine hK.out _ _ S54.out.drew (fun hHeld => ?_)
    clear hK
    try simp only [Act.put, List.getElem_toArray, List.getElem_cons_succ, List.getElem_cons_zero, List.setIfInBounds_toArray, List.set_cons_zero, List.set_cons_succ]
    refine wpAnyH_ready (rs := [0]) (by kernel_rfl) (by simp) ?_
    refine AllReadyH.cons rfl (fun K hK => ?_) AllReadyH.nil
    go_simp
    (with_reducible refine (CU.out _).mono ?_)
    rintro e z55 ⟨rfl, hz⟩
    have S55 := Lib.hid (S54.out.drew.next hz)
    have KP55 := Lib.hid (PtBlk.next (pt_drew KP54.out) hz)
    have KB55 := Lib.hid (BBlk.next (bp_drew KB54.out) hz)
    clear hz hHeld
    go_simp
    refine hK.out _ _ S55.out (fun hHeld => ?_)
    clear hK
    try simp only [Act.put, List.getElem_toArray, List.getElem_cons_succ, List.getElem_cons_zero, List.setIfInBounds_toArray, List.set_cons_zero, List.set_cons_succ]
    refine wpAnyH_ready (rs := [2]) (by kernel_rfl) (by simp) ?_
    refine AllReadyH.cons rfl (fun K hK => ?_) AllReadyH.nil
    go_simp
    (with_reducible refine (CS.out _ S55.out.roles).mono ?_)
    rintro e z56 ⟨rfl, hz⟩
    have S56 := Lib.hid (S55.out.next hz)
    have KP56 := Lib.hid (PtBlk.next (pt_drew' KP55.out) hz)
    have KB56 := Lib.hid (BBlk.next (bp_drew' KB55.out) hz)
    clear hz hHeld
    go_simp
    refine hK.out _ _ S56.out (fun hHeld => ?_)
    clear hK
    try simp only [Act.put, List.getElem_toArray, List.getElem_cons_succ, List.getElem_cons_zero, List.setIfInBounds_toArray, List.set_cons_zero, List.set_cons_succ]
    refine wpAnyH_take (i := 3) (v := .tuple #[.agg (cellsT Q14), M14.val, .bool true]) rfl (by kernel_rfl) (by kernel_rfl) (by kernel_rfl) (fun _ _ _ h => h) (Or.inl ⟨by rfl, fun V h => by go_simp⟩) hHeld ?_
    try simp only [Act.put, List.getElem_toArray, List.getElem_cons_succ, List.getElem_cons_zero, List.setIfInBounds_toArray, List.set_cons_zero, List.set_cons_succ]
    refine wpAnyH_take (i := 4) (v := .agg (cellsT Q14)) rfl (by kernel_rfl) (by kernel_rfl) (by kernel_rfl) (fun _ _ _ h => h) (Or.inl ⟨by rfl, fun V h => by go_simp⟩) hHeld ?_
    try simp only [Act.put, List.getElem_toArray, List.getElem_cons_succ, List.getElem_cons_zero, List.setIfInBounds_toArray, List.set_cons_zero, List.set_cons_succ]
    refine wpAnyH_take (i := 5) (v := M14.val) rfl (by kernel_rfl) (by kernel_rfl) (by kernel_rfl) (fun _ _ _ h => h) (Or.inl ⟨by rfl, fun V h => by go_simp⟩) hHeld ?_
    try simp only [Act.put, List.getElem_toArray, List.getElem_cons_succ, List.getElem_cons_zero, List.setIfInBounds_toArray, List.set_cons_zero, List.set_cons_succ]
    refine wpAnyH_take (i := 6) (v := .bool true) rfl (by kernel_rfl) (by kernel_rfl) (by kernel_rfl) (fun _ _ _ h => h) (Or.inl ⟨by rfl, fun V h => by go_simp⟩) hHeld ?_
    try simp only [Act.put, List.getElem_toArray, List.getElem_cons_succ, List.getElem_cons_zero, List.setIfInBounds_toArray, List.set_cons_zero, List.set_cons_succ]
    refine wpAnyH_ready (rs := [9]) (by kernel_rfl) (by simp) ?_
    refine AllReadyH.cons rfl (fun K hK => ?_) AllReadyH.nil
    rw [if_pos (by kernel_rfl)]
    refine wp_store_row 30 _ _ rfl _ (cellsT Q14) rfl rfl 30 _ KP56.out infoSP rfl (cellsT_one _) ?_
    have S57 := Lib.hid (S56.out.row L54.out (cellsT Q14))
    have KP57 := Lib.hid (KP56.out.row Q14)
    have KB57 := Lib.hid (show BBlk 34 (World.setRow _ _ (cellsT Q14)) _ zeroM from (setRow_other _ _ _ _ (N54.out)).trans KB56.out)
    refine hK.out _ _ S57.out (fun hHeld => ?_)
    clear hK
    try simp only [Act.put, List.getElem_toArray, List.getElem_cons_succ, List.getElem_cons_zero, List.setIfInBounds_toArray, List.set_cons_zero, List.set_cons_succ]
    refine wpAnyH_ready (rs := [10]) (by kernel_rfl) (by simp) ?_
    refine AllReadyH.cons rfl (fun K hK => ?_) AllReadyH.nil
    rw [if_pos (by kernel_rfl)]
    refine wp_store_row 34 _ _ rfl _ (cellsB M14) rfl rfl 34 _ KB57.out infoSB rfl (cellsB_one _) ?_
    have S58 := Lib.hid (S57.out.row L44.out (cellsB M14))
    have KP58 := Lib.hid (show PtBlk 30 (World.setRow _ _ (cellsB M14)) _ Q14 from (setRow_other _ _ _ _ (N54.out.symm)).trans KP57.out)
    have KB58 := Lib.hid (KB57.out.row M14)
    refine hK.out _ _ S58.out (fun hHeld => ?_)
    clear hK
    try simp only [Act.put, List.getElem_toArray, List.getElem_cons_succ, List.getElem_cons_zero, List.setIfInBounds_toArray, List.set_cons_zero, List.set_cons_succ]
    refine wpAnyH_take (i := 11) (v := .bool true) rfl (by kernel_rfl) (by kernel_rfl) (by kernel_rfl) (fun _ _ _ h => h) (Or.inl ⟨by rfl, fun V h => by go_simp⟩) hHeld ?_
    try simp only [Act.put, List.getElem_toArray, List.getElem_cons_succ, List.getElem_cons_zero, List.setIfInBounds_toArray, List.set_cons_zero, List.set_cons_succ]
    refine wpAnyH_done (by kernel_rfl) ?_ _
    clear hHeld
    go_wp2_with fail
    go_meet
    exact ⟨_, _, rfl, rfl, rfl, L54.out, L44.out, KP58.out, KB58.out, S58.out⟩
  case rest =>
  obtain ⟨n1, m1, rfl, rfl, rfl, hn1, hm1, kp1, kb1, s1⟩ := hcut
  have S1 := Lib.hid (show AwS wc n1 Q14 wc from ⟨kp1, s1.roles, Below.refl _ wc, s1.roles.pos⟩)
  have KP1 := Lib.hid kp1
  have KM1 := Lib.hid kb1
  have B1 := Lib.hid s1.below
  obtain ⟨V, hV⟩ : ∃ V, wc = V := ⟨_, rfl⟩
  rw [hV] at S1 KP1 KM1 B1
  rw [hV]
  clear kp1 kb1 s1 S0 hn1 hm1 hV wc
  go_upto_region 3 with (fail)
  go_cut [5, 6, 7] (fun u v x wx => AwR V n1 Q14 R14 N14 false u v x wx)
  case first =>
    refine wp_region_held_drew (S := AwS V n1 Q14) (by kernel_rfl) (show AwS V n1 Q14 V.drew from S1.out.drew) (fun hHeld => ?_)
    try simp only [Act.put]
    refine wpAnyH_take (i := 1) (v := .agg (cellsT Q14)) rfl (by kernel_rfl) (by kernel_rfl) (by kernel_rfl) (fun _ _ _ h => h) (yieldsIf_run (by rfl) 30 _ rfl ⟨n1, 0, none⟩ rfl _ (fun V h => loadAt_row h.pt rfl rfl (by kernel_rfl))) hHeld ?_
    try simp only [Act.put, List.getElem_toArray, List.getElem_cons_succ, List.getElem_cons_zero, List.setIfInBounds_toArray, List.set_cons_zero, List.set_cons_succ]
    refine wpAnyH_ready (rs := [0, 7, 8]) (by kernel_rfl) (by simp) ?_
    refine AllReadyH.cons rfl (fun K hK => ?_) ?_
    · go_simp
      (with_reducible refine (CU.out _).mono ?_)
      rintro e z59 ⟨rfl, hz⟩
      have S59 := Lib.hid (S1.out.drew.next hz)
      clear hz hHeld
      go_simp
      refine hK.out _ _ S59.out (fun hHeld => ?_)
      clear hK
      try simp only [Act.put, List.getElem_toArray, List.getElem_cons_succ, List.getElem_cons_zero, List.setIfInBounds_toArray, List.set_cons_zero, List.set_cons_succ]
      refine wpAnyH_ready (rs := [2, 7, 8]) (by kernel_rfl) (by simp) ?_
      refine AllReadyH.cons rfl (fun K hK => ?_) ?_
      · go_simp
        (with_reducible refine (CT.out _ S59.out.roles).mono ?_)
        rintro e z60 ⟨rfl, hz⟩
        have S60 := Lib.hid (S59.out.next hz)
        clear hz hHeld
        go_simp
        refine hK.out _ _ S60.out (fun hHeld => ?_)
        clear hK
        try simp only [Act.put, List.getElem_toArray, List.getElem_cons_succ, List.getElem_cons_zero, List.setIfInBounds_toArray, List.set_cons_zero, List.set_cons_succ]
        refine wpAnyH_take (i := 3) (v := .tuple #[.agg (cellsT R14), N14.val, .bool false]) rfl (by kernel_rfl) (by kernel_rfl) (by kernel_rfl) (fun _ _ _ h => h) (Or.inl ⟨by rfl, fun V h => by go_simp⟩) hHeld ?_
        try simp only [Act.put, List.getElem_toArray, List.getElem_cons_succ, List.getElem_cons_zero, List.setIfInBounds_toArray, List.set_cons_zero, List.set_cons_succ]
        refine wpAnyH_take (i := 4) (v := .agg (cellsT R14)) rfl (by kernel_rfl) (by kernel_rfl) (by kernel_rfl) (fun _ _ _ h => h) (Or.inl ⟨by rfl, fun V h => by go_simp⟩) hHeld ?_
        try simp only [Act.put, List.getElem_toArray, List.getElem_cons_succ, List.getElem_cons_zero, List.setIfInBounds_toArray, List.set_cons_zero, List.set_cons_succ]
        refine wpAnyH_take (i := 5) (v := N14.val) rfl (by kernel_rfl) (by kernel_rfl) (by kernel_rfl) (fun _ _ _ h => h) (Or.inl ⟨by rfl, fun V h => by go_simp⟩) hHeld ?_
        try simp only [Act.put, List.getElem_toArray, List.getElem_cons_succ, List.getElem_cons_zero, List.setIfInBounds_toArray, List.set_cons_zero, List.set_cons_succ]
        refine wpAnyH_take (i := 6) (v := .bool false) rfl (by kernel_rfl) (by kernel_rfl) (by kernel_rfl) (fun _ _ _ h => h) (Or.inl ⟨by rfl, fun V h => by go_simp⟩) hHeld ?_
        try simp only [Act.put, List.getElem_toArray, List.getElem_cons_succ, List.getElem_cons_zero, List.setIfInBounds_toArray, List.set_cons_zero, List.set_cons_succ]
        refine wpAnyH_ready (rs := [7, 8]) (by kernel_rfl) (by simp) ?_
        refine AllReadyH.cons rfl (fun K hK => ?_) ?_
        · go_simp
          have S61 := Lib.hid (S60.out.alloc (.cells (cellsT zeroP) 30))
          have KP61 := Lib.hid (show PtBlk 30 (World.alloc z60 _) (World.heap z60).size zeroP from heap_alloc_new z60 (.cells (cellsT zeroP) 30))
          have L61 := Lib.hid (And.intro S60.out.below.size S60.out.pt.lt)
          refine hK.out _ _ S61.out (fun hHeld => ?_)
          clear hK
          try simp only [Act.put, List.getElem_toArray, List.getElem_cons_succ, List.getElem_cons_zero, List.setIfInBounds_toArray, List.set_cons_zero, List.set_cons_succ]
          refine wpAnyH_ready (rs := [8]) (by kernel_rfl) (by simp) ?_
          refine AllReadyH.cons rfl (fun K hK => ?_) AllReadyH.nil
          go_simp
          have S62 := Lib.hid (S61.out.alloc (.cells (cellsB zeroM) 34))
          have KB62 := Lib.hid (show BBlk 34 (World.alloc (World.alloc z60 (.cells (cellsT zeroP) 30)) _) ((World.heap z60).size + 1) zeroM by have h := heap_alloc_new (World.alloc z60 (.cells (cellsT zeroP) 30)) (.cells (cellsB zeroM) 34); rw [size_box] at h; exact h)
          have L62 := Lib.hid (by have a := S61.out.below.size; have b := S61.out.pt.lt; rw [size_box] at a b; exact And.intro a b)
          have N62 := Lib.hid (Nat.ne_of_lt (by have a := KP61.out.lt; rw [size_box] at a; exact a))
          have KP62 := Lib.hid (pt_alloc KP61.out (.cells (cellsB zeroM) 34))
          refine hK.out _ _ S62.out (fun hHeld => ?_)
          clear hK
          try simp only [Act.put, List.getElem_toArray, List.getElem_cons_succ, List.getElem_cons_zero, List.setIfInBounds_toArray, List.set_cons_zero, List.set_cons_succ]
          refine wpAnyH_ready (rs := [9]) (by kernel_rfl) (by simp) ?_
          refine AllReadyH.cons rfl (fun K hK => ?_) AllReadyH.nil
          rw [if_pos (by kernel_rfl)]
          refine wp_store_row 30 _ _ rfl _ (cellsT R14) rfl rfl 30 _ KP62.out infoSP rfl (cellsT_one _) ?_
          have S63 := Lib.hid (S62.out.row L61.out (cellsT R14))
          have KP63 := Lib.hid (KP62.out.row R14)
          have KB63 := Lib.hid (show BBlk 34 (World.setRow _ _ (cellsT R14)) _ zeroM from (setRow_other _ _ _ _ (N62.out.symm)).trans KB62.out)
          refine hK.out _ _ S63.out (fun hHeld => ?_)
          clear hK
          try simp only [Act.put, List.getElem_toArray, List.getElem_cons_succ, List.getElem_cons_zero, List.setIfInBounds_toArray, List.set_cons_zero, List.set_cons_succ]
          refine wpAnyH_ready (rs := [10]) (by kernel_rfl) (by simp) ?_
          refine AllReadyH.cons rfl (fun K hK => ?_) AllReadyH.nil
          rw [if_pos (by kernel_rfl)]
          refine wp_store_row 34 _ _ rfl _ (cellsB N14) rfl rfl 34 _ KB63.out infoSB rfl (cellsB_one _) ?_
          have S64 := Lib.hid (S63.out.row L62.out (cellsB N14))
          have KP64 := Lib.hid (show PtBlk 30 (World.setRow _ _ (cellsB N14)) _ R14 from (setRow_other _ _ _ _ (N62.out)).trans KP63.out)
          have KB64 := Lib.hid (KB63.out.row N14)
          refine hK.out _ _ S64.out (fun hHeld => ?_)
          clear hK
          try simp only [Act.put, List.getElem_toArray, List.getElem_cons_succ, List.getElem_cons_zero, List.setIfInBounds_toArray, List.set_cons_zero, List.set_cons_succ]
          refine wpAnyH_take (i := 11) (v := .bool false) rfl (by kernel_rfl) (by kernel_rfl) (by kernel_rfl) (fun _ _ _ h => h) (Or.inl ⟨by rfl, fun V h => by go_simp⟩) hHeld ?_
          try simp only [Act.put, List.getElem_toArray, List.getElem_cons_succ, List.getElem_cons_zero, List.setIfInBounds_toArray, List.set_cons_zero, List.set_cons_succ]
          refine wpAnyH_done (by kernel_rfl) ?_ _
          clear hHeld
          go_wp2_with fail
          go_meet
          exact ⟨_, _, rfl, rfl, rfl, L61.out, L62.out, KP64.out, KB64.out, S64.out⟩
        refine AllReadyH.cons rfl (fun K hK => ?_) AllReadyH.nil
        go_simp
        have S65 := Lib.hid (S60.out.alloc (.cells (cellsB zeroM) 34))
        have KB65 := Lib.hid (show BBlk 34 (World.alloc z60 _) (World.heap z60).size zeroM from heap_alloc_new z60 (.cells (cellsB zeroM) 34))
        have L65 := Lib.hid (And.intro S60.out.below.size S60.out.pt.lt)
        refine hK.out _ _ S65.out (fun hHeld => ?_)
        clear hK
        try simp only [Act.put, List.getElem_toArray, List.getElem_cons_succ, List.getElem_cons_zero, List.setIfInBounds_toArray, List.set_cons_zero, List.set_cons_succ]
        refine wpAnyH_ready (rs := [7]) (by kernel_rfl) (by simp) ?_
        refine AllReadyH.cons rfl (fun K hK => ?_) AllReadyH.nil
        go_simp
        have S66 := Lib.hid (S65.out.alloc (.cells (cellsT zeroP) 30))
        have KP66 := Lib.hid (show PtBlk 30 (World.alloc (World.alloc z60 (.cells (cellsB zeroM) 34)) _) ((World.heap z60).size + 1) zeroP by have h := heap_alloc_new (World.alloc z60 (.cells (cellsB zeroM) 34)) (.cells (cellsT zeroP) 30); rw [size_box] at h; exact h)
        have L66 := Lib.hid (by have a := S65.out.below.size; have b := S65.out.pt.lt; rw [size_box] at a b; exact And.intro a b)
        have N66 := Lib.hid (Nat.ne_of_lt (by have a := KB65.out.lt; rw [size_box] at a; exact a))
        have KB66 := Lib.hid (bp_alloc KB65.out (.cells (cellsT zeroP) 30))
        refine hK.out _ _ S66.out (fun hHeld => ?_)
        clear hK
        try simp only [Act.put, List.getElem_toArray, List.getElem_cons_succ, List.getElem_cons_zero, List.setIfInBounds_toArray, List.set_cons_zero, List.set_cons_succ]
        refine wpAnyH_ready (rs := [9]) (by kernel_rfl) (by simp) ?_
        refine AllReadyH.cons rfl (fun K hK => ?_) AllReadyH.nil
        rw [if_pos (by kernel_rfl)]
        refine wp_store_row 30 _ _ rfl _ (cellsT R14) rfl rfl 30 _ KP66.out infoSP rfl (cellsT_one _) ?_
        have S67 := Lib.hid (S66.out.row L66.out (cellsT R14))
        have KP67 := Lib.hid (KP66.out.row R14)
        have KB67 := Lib.hid (show BBlk 34 (World.setRow _ _ (cellsT R14)) _ zeroM from (setRow_other _ _ _ _ (N66.out)).trans KB66.out)
        refine hK.out _ _ S67.out (fun hHeld => ?_)
        clear hK
        try simp only [Act.put, List.getElem_toArray, List.getElem_cons_succ, List.getElem_cons_zero, List.setIfInBounds_toArray, List.set_cons_zero, List.set_cons_succ]
        refine wpAnyH_ready (rs := [10]) (by kernel_rfl) (by simp) ?_
        refine AllReadyH.cons rfl (fun K hK => ?_) AllReadyH.nil
        rw [if_pos (by kernel_rfl)]
        refine wp_store_row 34 _ _ rfl _ (cellsB N14) rfl rfl 34 _ KB67.out infoSB rfl (cellsB_one _) ?_
        have S68 := Lib.hid (S67.out.row L65.out (cellsB N14))
        have KP68 := Lib.hid (show PtBlk 30 (World.setRow _ _ (cellsB N14)) _ R14 from (setRow_other _ _ _ _ (N66.out.symm)).trans KP67.out)
        have KB68 := Lib.hid (KB67.out.row N14)
        refine hK.out _ _ S68.out (fun hHeld => ?_)
        clear hK
        try simp only [Act.put, List.getElem_toArray, List.getElem_cons_succ, List.getElem_cons_zero, List.setIfInBounds_toArray, List.set_cons_zero, List.set_cons_succ]
        refine wpAnyH_take (i := 11) (v := .bool false) rfl (by kernel_rfl) (by kernel_rfl) (by kernel_rfl) (fun _ _ _ h => h) (Or.inl ⟨by rfl, fun V h => by go_simp⟩) hHeld ?_
        try simp only [Act.put, List.getElem_toArray, List.getElem_cons_succ, List.getElem_cons_zero, List.setIfInBounds_toArray, List.set_cons_zero, List.set_cons_succ]
        refine wpAnyH_done (by kernel_rfl) ?_ _
        clear hHeld
        go_wp2_with fail
        go_meet
        exact ⟨_, _, rfl, rfl, rfl, L66.out, L65.out, KP68.out, KB68.out, S68.out⟩
      refine AllReadyH.cons rfl (fun K hK => ?_) ?_
      · go_simp
        have S69 := Lib.hid (S59.out.alloc (.cells (cellsT zeroP) 30))
        have KP69 := Lib.hid (show PtBlk 30 (World.alloc z59 _) (World.heap z59).size zeroP from heap_alloc_new z59 (.cells (cellsT zeroP) 30))
        have L69 := Lib.hid (And.intro S59.out.below.size S59.out.pt.lt)
        refine hK.out _ _ S69.out (fun hHeld => ?_)
        clear hK
        try simp only [Act.put, List.getElem_toArray, List.getElem_cons_succ, List.getElem_cons_zero, List.setIfInBounds_toArray, List.set_cons_zero, List.set_cons_succ]
        refine wpAnyH_ready (rs := [2, 8]) (by kernel_rfl) (by simp) ?_
        refine AllReadyH.cons rfl (fun K hK => ?_) ?_
        · go_simp
          refine (CT.out _ S69.out.roles).mono ?_
          rintro e z70 ⟨rfl, hz⟩
          have S70 := Lib.hid (S69.out.next hz)
          have KP70 := Lib.hid (PtBlk.next (pt_drew' KP69.out) hz)
          clear hz hHeld
          go_simp
          refine hK.out _ _ S70.out (fun hHeld => ?_)
          clear hK
          try simp only [Act.put, List.getElem_toArray, List.getElem_cons_succ, List.getElem_cons_zero, List.setIfInBounds_toArray, List.set_cons_zero, List.set_cons_succ]
          refine wpAnyH_take (i := 3) (v := .tuple #[.agg (cellsT R14), N14.val, .bool false]) rfl (by kernel_rfl) (by kernel_rfl) (by kernel_rfl) (fun _ _ _ h => h) (Or.inl ⟨by rfl, fun V h => by go_simp⟩) hHeld ?_
          try simp only [Act.put, List.getElem_toArray, List.getElem_cons_succ, List.getElem_cons_zero, List.setIfInBounds_toArray, List.set_cons_zero, List.set_cons_succ]
          refine wpAnyH_take (i := 4) (v := .agg (cellsT R14)) rfl (by kernel_rfl) (by kernel_rfl) (by kernel_rfl) (fun _ _ _ h => h) (Or.inl ⟨by rfl, fun V h => by go_simp⟩) hHeld ?_
          try simp only [Act.put, List.getElem_toArray, List.getElem_cons_succ, List.getElem_cons_zero, List.setIfInBounds_toArray, List.set_cons_zero, List.set_cons_succ]
          refine wpAnyH_take (i := 5) (v := N14.val) rfl (by kernel_rfl) (by kernel_rfl) (by kernel_rfl) (fun _ _ _ h => h) (Or.inl ⟨by rfl, fun V h => by go_simp⟩) hHeld ?_
          try simp only [Act.put, List.getElem_toArray, List.getElem_cons_succ, List.getElem_cons_zero, List.setIfInBounds_toArray, List.set_cons_zero, List.set_cons_succ]
          refine wpAnyH_take (i := 6) (v := .bool false) rfl (by kernel_rfl) (by kernel_rfl) (by kernel_rfl) (fun _ _ _ h => h) (Or.inl ⟨by rfl, fun V h => by go_simp⟩) hHeld ?_
          try simp only [Act.put, List.getElem_toArray, List.getElem_cons_succ, List.getElem_cons_zero, List.setIfInBounds_toArray, List.set_cons_zero, List.set_cons_succ]
          refine wpAnyH_ready (rs := [8]) (by kernel_rfl) (by simp) ?_
          refine AllReadyH.cons rfl (fun K hK => ?_) AllReadyH.nil
          go_simp
          have S71 := Lib.hid (S70.out.alloc (.cells (cellsB zeroM) 34))
          have KB71 := Lib.hid (show BBlk 34 (World.alloc z70 _) (World.heap z70).size zeroM from heap_alloc_new z70 (.cells (cellsB zeroM) 34))
          have L71 := Lib.hid (And.intro S70.out.below.size S70.out.pt.lt)
          have N71 := Lib.hid (Nat.ne_of_lt KP70.out.lt)
          have KP71 := Lib.hid (pt_alloc KP70.out (.cells (cellsB zeroM) 34))
          refine hK.out _ _ S71.out (fun hHeld => ?_)
          clear hK
          try simp only [Act.put, List.getElem_toArray, List.getElem_cons_succ, List.getElem_cons_zero, List.setIfInBounds_toArray, List.set_cons_zero, List.set_cons_succ]
          refine wpAnyH_ready (rs := [9]) (by kernel_rfl) (by simp) ?_
          refine AllReadyH.cons rfl (fun K hK => ?_) AllReadyH.nil
          rw [if_pos (by kernel_rfl)]
          refine wp_store_row 30 _ _ rfl _ (cellsT R14) rfl rfl 30 _ KP71.out infoSP rfl (cellsT_one _) ?_
          have S72 := Lib.hid (S71.out.row L69.out (cellsT R14))
          have KP72 := Lib.hid (KP71.out.row R14)
          have KB72 := Lib.hid (show BBlk 34 (World.setRow _ _ (cellsT R14)) _ zeroM from (setRow_other _ _ _ _ (N71.out.symm)).trans KB71.out)
          refine hK.out _ _ S72.out (fun hHeld => ?_)
          clear hK
          try simp only [Act.put, List.getElem_toArray, List.getElem_cons_succ, List.getElem_cons_zero, List.setIfInBounds_toArray, List.set_cons_zero, List.set_cons_succ]
          refine wpAnyH_ready (rs := [10]) (by kernel_rfl) (by simp) ?_
          refine AllReadyH.cons rfl (fun K hK => ?_) AllReadyH.nil
          rw [if_pos (by kernel_rfl)]
          refine wp_store_row 34 _ _ rfl _ (cellsB N14) rfl rfl 34 _ KB72.out infoSB rfl (cellsB_one _) ?_
          have S73 := Lib.hid (S72.out.row L71.out (cellsB N14))
          have KP73 := Lib.hid (show PtBlk 30 (World.setRow _ _ (cellsB N14)) _ R14 from (setRow_other _ _ _ _ (N71.out)).trans KP72.out)
          have KB73 := Lib.hid (KB72.out.row N14)
          refine hK.out _ _ S73.out (fun hHeld => ?_)
          clear hK
          try simp only [Act.put, List.getElem_toArray, List.getElem_cons_succ, List.getElem_cons_zero, List.setIfInBounds_toArray, List.set_cons_zero, List.set_cons_succ]
          refine wpAnyH_take (i := 11) (v := .bool false) rfl (by kernel_rfl) (by kernel_rfl) (by kernel_rfl) (fun _ _ _ h => h) (Or.inl ⟨by rfl, fun V h => by go_simp⟩) hHeld ?_
          try simp only [Act.put, List.getElem_toArray, List.getElem_cons_succ, List.getElem_cons_zero, List.setIfInBounds_toArray, List.set_cons_zero, List.set_cons_succ]
          refine wpAnyH_done (by kernel_rfl) ?_ _
          clear hHeld
          go_wp2_with fail
          go_meet
          exact ⟨_, _, rfl, rfl, rfl, L69.out, L71.out, KP73.out, KB73.out, S73.out⟩
        refine AllReadyH.cons rfl (fun K hK => ?_) AllReadyH.nil
        go_simp
        have S74 := Lib.hid (S69.out.alloc (.cells (cellsB zeroM) 34))
        have KB74 := Lib.hid (show BBlk 34 (World.alloc (World.alloc z59 (.cells (cellsT zeroP) 30)) _) ((World.heap z59).size + 1) zeroM by have h := heap_alloc_new (World.alloc z59 (.cells (cellsT zeroP) 30)) (.cells (cellsB zeroM) 34); rw [size_box] at h; exact h)
        have L74 := Lib.hid (by have a := S69.out.below.size; have b := S69.out.pt.lt; rw [size_box] at a b; exact And.intro a b)
        have N74 := Lib.hid (Nat.ne_of_lt (by have a := KP69.out.lt; rw [size_box] at a; exact a))
        have KP74 := Lib.hid (pt_alloc KP69.out (.cells (cellsB zeroM) 34))
        refine hK.out _ _ S74.out (fun hHeld => ?_)
        clear hK
        try simp only [Act.put, List.getElem_toArray, List.getElem_cons_succ, List.getElem_cons_zero, List.setIfInBounds_toArray, List.set_cons_zero, List.set_cons_succ]
        refine wpAnyH_ready (rs := [2]) (by kernel_rfl) (by simp) ?_
        refine AllReadyH.cons rfl (fun K hK => ?_) AllReadyH.nil
        go_simp
        refine (CT.out _ S74.out.roles).mono ?_
        rintro e z75 ⟨rfl, hz⟩
        have S75 := Lib.hid (S74.out.next hz)
        have KP75 := Lib.hid (PtBlk.next (pt_drew' KP74.out) hz)
        have KB75 := Lib.hid (BBlk.next (bp_drew' KB74.out) hz)
        clear hz hHeld
        go_simp
        refine hK.out _ _ S75.out (fun hHeld => ?_)
        clear hK
        try simp only [Act.put, List.getElem_toArray, List.getElem_cons_succ, List.getElem_cons_zero, List.setIfInBounds_toArray, List.set_cons_zero, List.set_cons_succ]
        refine wpAnyH_take (i := 3) (v := .tuple #[.agg (cellsT R14), N14.val, .bool false]) rfl (by kernel_rfl) (by kernel_rfl) (by kernel_rfl) (fun _ _ _ h => h) (Or.inl ⟨by rfl, fun V h => by go_simp⟩) hHeld ?_
        try simp only [Act.put, List.getElem_toArray, List.getElem_cons_succ, List.getElem_cons_zero, List.setIfInBounds_toArray, List.set_cons_zero, List.set_cons_succ]
        refine wpAnyH_take (i := 4) (v := .agg (cellsT R14)) rfl (by kernel_rfl) (by kernel_rfl) (by kernel_rfl) (fun _ _ _ h => h) (Or.inl ⟨by rfl, fun V h => by go_simp⟩) hHeld ?_
        try simp only [Act.put, List.getElem_toArray, List.getElem_cons_succ, List.getElem_cons_zero, List.setIfInBounds_toArray, List.set_cons_zero, List.set_cons_succ]
        refine wpAnyH_take (i := 5) (v := N14.val) rfl (by kernel_rfl) (by kernel_rfl) (by kernel_rfl) (fun _ _ _ h => h) (Or.inl ⟨by rfl, fun V h => by go_simp⟩) hHeld ?_
        try simp only [Act.put, List.getElem_toArray, List.getElem_cons_succ, List.getElem_cons_zero, List.setIfInBounds_toArray, List.set_cons_zero, List.set_cons_succ]
        refine wpAnyH_take (i := 6) (v := .bool false) rfl (by kernel_rfl) (by kernel_rfl) (by kernel_rfl) (fun _ _ _ h => h) (Or.inl ⟨by rfl, fun V h => by go_simp⟩) hHeld ?_
        try simp only [Act.put, List.getElem_toArray, List.getElem_cons_succ, List.getElem_cons_zero, List.setIfInBounds_toArray, List.set_cons_zero, List.set_cons_succ]
        refine wpAnyH_ready (rs := [9]) (by kernel_rfl) (by simp) ?_
        refine AllReadyH.cons rfl (fun K hK => ?_) AllReadyH.nil
        rw [if_pos (by kernel_rfl)]
        refine wp_store_row 30 _ _ rfl _ (cellsT R14) rfl rfl 30 _ KP75.out infoSP rfl (cellsT_one _) ?_
        have S76 := Lib.hid (S75.out.row L69.out (cellsT R14))
        have KP76 := Lib.hid (KP75.out.row R14)
        have KB76 := Lib.hid (show BBlk 34 (World.setRow _ _ (cellsT R14)) _ zeroM from (setRow_other _ _ _ _ (N74.out.symm)).trans KB75.out)
        refine hK.out _ _ S76.out (fun hHeld => ?_)
        clear hK
        try simp only [Act.put, List.getElem_toArray, List.getElem_cons_succ, List.getElem_cons_zero, List.setIfInBounds_toArray, List.set_cons_zero, List.set_cons_succ]
        refine wpAnyH_ready (rs := [10]) (by kernel_rfl) (by simp) ?_
        refine AllReadyH.cons rfl (fun K hK => ?_) AllReadyH.nil
        rw [if_pos (by kernel_rfl)]
        refine wp_store_row 34 _ _ rfl _ (cellsB N14) rfl rfl 34 _ KB76.out infoSB rfl (cellsB_one _) ?_
        have S77 := Lib.hid (S76.out.row L74.out (cellsB N14))
        have KP77 := Lib.hid (show PtBlk 30 (World.setRow _ _ (cellsB N14)) _ R14 from (setRow_other _ _ _ _ (N74.out)).trans KP76.out)
        have KB77 := Lib.hid (KB76.out.row N14)
        refine hK.out _ _ S77.out (fun hHeld => ?_)
        clear hK
        try simp only [Act.put, List.getElem_toArray, List.getElem_cons_succ, List.getElem_cons_zero, List.setIfInBounds_toArray, List.set_cons_zero, List.set_cons_succ]
        refine wpAnyH_take (i := 11) (v := .bool false) rfl (by kernel_rfl) (by kernel_rfl) (by kernel_rfl) (fun _ _ _ h => h) (Or.inl ⟨by rfl, fun V h => by go_simp⟩) hHeld ?_
        try simp only [Act.put, List.getElem_toArray, List.getElem_cons_succ, List.getElem_cons_zero, List.setIfInBounds_toArray, List.set_cons_zero, List.set_cons_succ]
        refine wpAnyH_done (by kernel_rfl) ?_ _
        clear hHeld
        go_wp2_with fail
        go_meet
        exact ⟨_, _, rfl, rfl, rfl, L69.out, L74.out, KP77.out, KB77.out, S77.out⟩
      refine AllReadyH.cons rfl (fun K hK => ?_) AllReadyH.nil
      go_simp
      have S78 := Lib.hid (S59.out.alloc (.cells (cellsB zeroM) 34))
      have KB78 := Lib.hid (show BBlk 34 (World.alloc z59 _) (World.heap z59).size zeroM from heap_alloc_new z59 (.cells (cellsB zeroM) 34))
      have L78 := Lib.hid (And.intro S59.out.below.size S59.out.pt.lt)
      refine hK.out _ _ S78.out (fun hHeld => ?_)
      clear hK
      try simp only [Act.put, List.getElem_toArray, List.getElem_cons_succ, List.getElem_cons_zero, List.setIfInBounds_toArray, List.set_cons_zero, List.set_cons_succ]
      refine wpAnyH_ready (rs := [2, 7]) (by kernel_rfl) (by simp) ?_
      refine AllReadyH.cons rfl (fun K hK => ?_) ?_
      · go_simp
        refine (CT.out _ S78.out.roles).mono ?_
        rintro e z79 ⟨rfl, hz⟩
        have S79 := Lib.hid (S78.out.next hz)
        have KB79 := Lib.hid (BBlk.next (bp_drew' KB78.out) hz)
        clear hz hHeld
        go_simp
        refine hK.out _ _ S79.out (fun hHeld => ?_)
        clear hK
        try simp only [Act.put, List.getElem_toArray, List.getElem_cons_succ, List.getElem_cons_zero, List.setIfInBounds_toArray, List.set_cons_zero, List.set_cons_succ]
        refine wpAnyH_take (i := 3) (v := .tuple #[.agg (cellsT R14), N14.val, .bool false]) rfl (by kernel_rfl) (by kernel_rfl) (by kernel_rfl) (fun _ _ _ h => h) (Or.inl ⟨by rfl, fun V h => by go_simp⟩) hHeld ?_
        try simp only [Act.put, List.getElem_toArray, List.getElem_cons_succ, List.getElem_cons_zero, List.setIfInBounds_toArray, List.set_cons_zero, List.set_cons_succ]
        refine wpAnyH_take (i := 4) (v := .agg (cellsT R14)) rfl (by kernel_rfl) (by kernel_rfl) (by kernel_rfl) (fun _ _ _ h => h) (Or.inl ⟨by rfl, fun V h => by go_simp⟩) hHeld ?_
        try simp only [Act.put, List.getElem_toArray, List.getElem_cons_succ, List.getElem_cons_zero, List.setIfInBounds_toArray, List.set_cons_zero, List.set_cons_succ]
        refine wpAnyH_take (i := 5) (v := N14.val) rfl (by kernel_rfl) (by kernel_rfl) (by kernel_rfl) (fun _ _ _ h => h) (Or.inl ⟨by rfl, fun V h => by go_simp⟩) hHeld ?_
        try simp only [Act.put, List.getElem_toArray, List.getElem_cons_succ, List.getElem_cons_zero, List.setIfInBounds_toArray, List.set_cons_zero, List.set_cons_succ]
        refine wpAnyH_take (i := 6) (v := .bool false) rfl (by kernel_rfl) (by kernel_rfl) (by kernel_rfl) (fun _ _ _ h => h) (Or.inl ⟨by rfl, fun V h => by go_simp⟩) hHeld ?_
        try simp only [Act.put, List.getElem_toArray, List.getElem_cons_succ, List.getElem_cons_zero, List.setIfInBounds_toArray, List.set_cons_zero, List.set_cons_succ]
        refine wpAnyH_ready (rs := [7]) (by kernel_rfl) (by simp) ?_
        refine AllReadyH.cons rfl (fun K hK => ?_) AllReadyH.nil
        go_simp
        have S80 := Lib.hid (S79.out.alloc (.cells (cellsT zeroP) 30))
        have KP80 := Lib.hid (show PtBlk 30 (World.alloc z79 _) (World.heap z79).size zeroP from heap_alloc_new z79 (.cells (cellsT zeroP) 30))
        have L80 := Lib.hid (And.intro S79.out.below.size S79.out.pt.lt)
        have N80 := Lib.hid (Nat.ne_of_lt KB79.out.lt)
        have KB80 := Lib.hid (bp_alloc KB79.out (.cells (cellsT zeroP) 30))
        refine hK.out _ _ S80.out (fun hHeld => ?_)
        clear hK
        try simp only [Act.put, List.getElem_toArray, List.getElem_cons_succ, List.getElem_cons_zero, List.setIfInBounds_toArray, List.set_cons_zero, List.set_cons_succ]
        refine wpAnyH_ready (rs := [9]) (by kernel_rfl) (by simp) ?_
        refine AllReadyH.cons rfl (fun K hK => ?_) AllReadyH.nil
        rw [if_pos (by kernel_rfl)]
        refine wp_store_row 30 _ _ rfl _ (cellsT R14) rfl rfl 30 _ KP80.out infoSP rfl (cellsT_one _) ?_
        have S81 := Lib.hid (S80.out.row L80.out (cellsT R14))
        have KP81 := Lib.hid (KP80.out.row R14)
        have KB81 := Lib.hid (show BBlk 34 (World.setRow _ _ (cellsT R14)) _ zeroM from (setRow_other _ _ _ _ (N80.out)).trans KB80.out)
        refine hK.out _ _ S81.out (fun hHeld => ?_)
        clear hK
        try simp only [Act.put, List.getElem_toArray, List.getElem_cons_succ, List.getElem_cons_zero, List.setIfInBounds_toArray, List.set_cons_zero, List.set_cons_succ]
        refine wpAnyH_ready (rs := [10]) (by kernel_rfl) (by simp) ?_
        refine AllReadyH.cons rfl (fun K hK => ?_) AllReadyH.nil
        rw [if_pos (by kernel_rfl)]
        refine wp_store_row 34 _ _ rfl _ (cellsB N14) rfl rfl 34 _ KB81.out infoSB rfl (cellsB_one _) ?_
        have S82 := Lib.hid (S81.out.row L78.out (cellsB N14))
        have KP82 := Lib.hid (show PtBlk 30 (World.setRow _ _ (cellsB N14)) _ R14 from (setRow_other _ _ _ _ (N80.out.symm)).trans KP81.out)
        have KB82 := Lib.hid (KB81.out.row N14)
        refine hK.out _ _ S82.out (fun hHeld => ?_)
        clear hK
        try simp only [Act.put, List.getElem_toArray, List.getElem_cons_succ, List.getElem_cons_zero, List.setIfInBounds_toArray, List.set_cons_zero, List.set_cons_succ]
        refine wpAnyH_take (i := 11) (v := .bool false) rfl (by kernel_rfl) (by kernel_rfl) (by kernel_rfl) (fun _ _ _ h => h) (Or.inl ⟨by rfl, fun V h => by go_simp⟩) hHeld ?_
        try simp only [Act.put, List.getElem_toArray, List.getElem_cons_succ, List.getElem_cons_zero, List.setIfInBounds_toArray, List.set_cons_zero, List.set_cons_succ]
        refine wpAnyH_done (by kernel_rfl) ?_ _
        clear hHeld
        go_wp2_with fail
        go_meet
        exact ⟨_, _, rfl, rfl, rfl, L80.out, L78.out, KP82.out, KB82.out, S82.out⟩
      refine AllReadyH.cons rfl (fun K hK => ?_) AllReadyH.nil
      go_simp
      have S83 := Lib.hid (S78.out.alloc (.cells (cellsT zeroP) 30))
      have KP83 := Lib.hid (show PtBlk 30 (World.alloc (World.alloc z59 (.cells (cellsB zeroM) 34)) _) ((World.heap z59).size + 1) zeroP by have h := heap_alloc_new (World.alloc z59 (.cells (cellsB zeroM) 34)) (.cells (cellsT zeroP) 30); rw [size_box] at h; exact h)
      have L83 := Lib.hid (by have a := S78.out.below.size; have b := S78.out.pt.lt; rw [size_box] at a b; exact And.intro a b)
      have N83 := Lib.hid (Nat.ne_of_lt (by have a := KB78.out.lt; rw [size_box] at a; exact a))
      have KB83 := Lib.hid (bp_alloc KB78.out (.cells (cellsT zeroP) 30))
      refine hK.out _ _ S83.out (fun hHeld => ?_)
      clear hK
      try simp only [Act.put, List.getElem_toArray, List.getElem_cons_succ, List.getElem_cons_zero, List.setIfInBounds_toArray, List.set_cons_zero, List.set_cons_succ]
      refine wpAnyH_ready (rs := [2]) (by kernel_rfl) (by simp) ?_
      refine AllReadyH.cons rfl (fun K hK => ?_) AllReadyH.nil
      go_simp
      refine (CT.out _ S83.out.roles).mono ?_
      rintro e z84 ⟨rfl, hz⟩
      have S84 := Lib.hid (S83.out.next hz)
      have KP84 := Lib.hid (PtBlk.next (pt_drew' KP83.out) hz)
      have KB84 := Lib.hid (BBlk.next (bp_drew' KB83.out) hz)
      clear hz hHeld
      go_simp
      refine hK.out _ _ S84.out (fun hHeld => ?_)
      clear hK
      try simp only [Act.put, List.getElem_toArray, List.getElem_cons_succ, List.getElem_cons_zero, List.setIfInBounds_toArray, List.set_cons_zero, List.set_cons_succ]
      refine wpAnyH_take (i := 3) (v := .tuple #[.agg (cellsT R14), N14.val, .bool false]) rfl (by kernel_rfl) (by kernel_rfl) (by kernel_rfl) (fun _ _ _ h => h) (Or.inl ⟨by rfl, fun V h => by go_simp⟩) hHeld ?_
      try simp only [Act.put, List.getElem_toArray, List.getElem_cons_succ, List.getElem_cons_zero, List.setIfInBounds_toArray, List.set_cons_zero, List.set_cons_succ]
      refine wpAnyH_take (i := 4) (v := .agg (cellsT R14)) rfl (by kernel_rfl) (by kernel_rfl) (by kernel_rfl) (fun _ _ _ h => h) (Or.inl ⟨by rfl, fun V h => by go_simp⟩) hHeld ?_
      try simp only [Act.put, List.getElem_toArray, List.getElem_cons_succ, List.getElem_cons_zero, List.setIfInBounds_toArray, List.set_cons_zero, List.set_cons_succ]
      refine wpAnyH_take (i := 5) (v := N14.val) rfl (by kernel_rfl) (by kernel_rfl) (by kernel_rfl) (fun _ _ _ h => h) (Or.inl ⟨by rfl, fun V h => by go_simp⟩) hHeld ?_
      try simp only [Act.put, List.getElem_toArray, List.getElem_cons_succ, List.getElem_cons_zero, List.setIfInBounds_toArray, List.set_cons_zero, List.set_cons_succ]
      refine wpAnyH_take (i := 6) (v := .bool false) rfl (by kernel_rfl) (by kernel_rfl) (by kernel_rfl) (fun _ _ _ h => h) (Or.inl ⟨by rfl, fun V h => by go_simp⟩) hHeld ?_
      try simp only [Act.put, List.getElem_toArray, List.getElem_cons_succ, List.getElem_cons_zero, List.setIfInBounds_toArray, List.set_cons_zero, List.set_cons_succ]
      refine wpAnyH_ready (rs := [9]) (by kernel_rfl) (by simp) ?_
      refine AllReadyH.cons rfl (fun K hK => ?_) AllReadyH.nil
      rw [if_pos (by kernel_rfl)]
      refine wp_store_row 30 _ _ rfl _ (cellsT R14) rfl rfl 30 _ KP84.out infoSP rfl (cellsT_one _) ?_
      have S85 := Lib.hid (S84.out.row L83.out (cellsT R14))
      have KP85 := Lib.hid (KP84.out.row R14)
      have KB85 := Lib.hid (show BBlk 34 (World.setRow _ _ (cellsT R14)) _ zeroM from (setRow_other _ _ _ _ (N83.out)).trans KB84.out)
      refine hK.out _ _ S85.out (fun hHeld => ?_)
      clear hK
      try simp only [Act.put, List.getElem_toArray, List.getElem_cons_succ, List.getElem_cons_zero, List.setIfInBounds_toArray, List.set_cons_zero, List.set_cons_succ]
      refine wpAnyH_ready (rs := [10]) (by kernel_rfl) (by simp) ?_
      refine AllReadyH.cons rfl (fun K hK => ?_) AllReadyH.nil
      rw [if_pos (by kernel_rfl)]
      refine wp_store_row 34 _ _ rfl _ (cellsB N14) rfl rfl 34 _ KB85.out infoSB rfl (cellsB_one _) ?_
      have S86 := Lib.hid (S85.out.row L78.out (cellsB N14))
      have KP86 := Lib.hid (show PtBlk 30 (World.setRow _ _ (cellsB N14)) _ R14 from (setRow_other _ _ _ _ (N83.out.symm)).trans KP85.out)
      have KB86 := Lib.hid (KB85.out.row N14)
      refine hK.out _ _ S86.out (fun hHeld => ?_)
      clear hK
      try simp only [Act.put, List.getElem_toArray, List.getElem_cons_succ, List.getElem_cons_zero, List.setIfInBounds_toArray, List.set_cons_zero, List.set_cons_succ]
      refine wpAnyH_take (i := 11) (v := .bool false) rfl (by kernel_rfl) (by kernel_rfl) (by kernel_rfl) (fun _ _ _ h => h) (Or.inl ⟨by rfl, fun V h => by go_simp⟩) hHeld ?_
      try simp only [Act.put, List.getElem_toArray, List.getElem_cons_succ, List.getElem_cons_zero, List.setIfInBounds_toArray, List.set_cons_zero, List.set_cons_succ]
      refine wpAnyH_done (by kernel_rfl) ?_ _
      clear hHeld
      go_wp2_with fail
      go_meet
      exact ⟨_, _, rfl, rfl, rfl, L83.out, L78.out, KP86.out, KB86.out, S86.out⟩
    refine AllReadyH.cons rfl (fun K hK => ?_) ?_
    · go_simp
      have S87 := Lib.hid (S1.out.alloc (.cells (cellsT zeroP) 30))
      have KP87 := Lib.hid (show PtBlk 30 (World.alloc V _) (World.heap V).size zeroP from heap_alloc_new V (.cells (cellsT zeroP) 30))
      have L87 := Lib.hid (And.intro S1.out.below.size S1.out.pt.lt)
      refine hK.out _ _ S87.out.drew (fun hHeld => ?_)
      clear hK
      try simp only [Act.put, List.getElem_toArray, List.getElem_cons_succ, List.getElem_cons_zero, List.setIfInBounds_toArray, List.set_cons_zero, List.set_cons_succ]
      refine wpAnyH_ready (rs := [0, 8]) (by kernel_rfl) (by simp) ?_
      refine AllReadyH.cons rfl (fun K hK => ?_) ?_
      · go_simp
        (with_reducible refine (CU.out _).mono ?_)
        rintro e z88 ⟨rfl, hz⟩
        have S88 := Lib.hid (S87.out.drew.next hz)
        have KP88 := Lib.hid (PtBlk.next (pt_drew KP87.out) hz)
        clear hz hHeld
        go_simp
        refine hK.out _ _ S88.out (fun hHeld => ?_)
        clear hK
        try simp only [Act.put, List.getElem_toArray, List.getElem_cons_succ, List.getElem_cons_zero, List.setIfInBounds_toArray, List.set_cons_zero, List.set_cons_succ]
        refine wpAnyH_ready (rs := [2, 8]) (by kernel_rfl) (by simp) ?_
        refine AllReadyH.cons rfl (fun K hK => ?_) ?_
        · go_simp
          (with_reducible refine (CT.out _ S88.out.roles).mono ?_)
          rintro e z89 ⟨rfl, hz⟩
          have S89 := Lib.hid (S88.out.next hz)
          have KP89 := Lib.hid (PtBlk.next (pt_drew' KP88.out) hz)
          clear hz hHeld
          go_simp
          refine hK.out _ _ S89.out (fun hHeld => ?_)
          clear hK
          try simp only [Act.put, List.getElem_toArray, List.getElem_cons_succ, List.getElem_cons_zero, List.setIfInBounds_toArray, List.set_cons_zero, List.set_cons_succ]
          refine wpAnyH_take (i := 3) (v := .tuple #[.agg (cellsT R14), N14.val, .bool false]) rfl (by kernel_rfl) (by kernel_rfl) (by kernel_rfl) (fun _ _ _ h => h) (Or.inl ⟨by rfl, fun V h => by go_simp⟩) hHeld ?_
          try simp only [Act.put, List.getElem_toArray, List.getElem_cons_succ, List.getElem_cons_zero, List.setIfInBounds_toArray, List.set_cons_zero, List.set_cons_succ]
          refine wpAnyH_take (i := 4) (v := .agg (cellsT R14)) rfl (by kernel_rfl) (by kernel_rfl) (by kernel_rfl) (fun _ _ _ h => h) (Or.inl ⟨by rfl, fun V h => by go_simp⟩) hHeld ?_
          try simp only [Act.put, List.getElem_toArray, List.getElem_cons_succ, List.getElem_cons_zero, List.setIfInBounds_toArray, List.set_cons_zero, List.set_cons_succ]
          refine wpAnyH_take (i := 5) (v := N14.val) rfl (by kernel_rfl) (by kernel_rfl) (by kernel_rfl) (fun _ _ _ h => h) (Or.inl ⟨by rfl, fun V h => by go_simp⟩) hHeld ?_
          try simp only [Act.put, List.getElem_toArray, List.getElem_cons_succ, List.getElem_cons_zero, List.setIfInBounds_toArray, List.set_cons_zero, List.set_cons_succ]
          refine wpAnyH_take (i := 6) (v := .bool false) rfl (by kernel_rfl) (by kernel_rfl) (by kernel_rfl) (fun _ _ _ h => h) (Or.inl ⟨by rfl, fun V h => by go_simp⟩) hHeld ?_
          try simp only [Act.put, List.getElem_toArray, List.getElem_cons_succ, List.getElem_cons_zero, List.setIfInBounds_toArray, List.set_cons_zero, List.set_cons_succ]
          refine wpAnyH_ready (rs := [8]) (by kernel_rfl) (by simp) ?_
          refine AllReadyH.cons rfl (fun K hK => ?_) AllReadyH.nil
          go_simp
          have S90 := Lib.hid (S89.out.alloc (.cells (cellsB zeroM) 34))
          have KB90 := Lib.hid (show BBlk 34 (World.alloc z89 _) (World.heap z89).size zeroM from heap_alloc_new z89 (.cells (cellsB zeroM) 34))
          have L90 := Lib.hid (And.intro S89.out.below.size S89.out.pt.lt)
          have N90 := Lib.hid (Nat.ne_of_lt KP89.out.lt)
          have KP90 := Lib.hid (pt_alloc KP89.out (.cells (cellsB zeroM) 34))
          refine hK.out _ _ S90.out (fun hHeld => ?_)
          clear hK
          try simp only [Act.put, List.getElem_toArray, List.getElem_cons_succ, List.getElem_cons_zero, List.setIfInBounds_toArray, List.set_cons_zero, List.set_cons_succ]
          refine wpAnyH_ready (rs := [9]) (by kernel_rfl) (by simp) ?_
          refine AllReadyH.cons rfl (fun K hK => ?_) AllReadyH.nil
          rw [if_pos (by kernel_rfl)]
          refine wp_store_row 30 _ _ rfl _ (cellsT R14) rfl rfl 30 _ KP90.out infoSP rfl (cellsT_one _) ?_
          have S91 := Lib.hid (S90.out.row L87.out (cellsT R14))
          have KP91 := Lib.hid (KP90.out.row R14)
          have KB91 := Lib.hid (show BBlk 34 (World.setRow _ _ (cellsT R14)) _ zeroM from (setRow_other _ _ _ _ (N90.out.symm)).trans KB90.out)
          refine hK.out _ _ S91.out (fun hHeld => ?_)
          clear hK
          try simp only [Act.put, List.getElem_toArray, List.getElem_cons_succ, List.getElem_cons_zero, List.setIfInBounds_toArray, List.set_cons_zero, List.set_cons_succ]
          refine wpAnyH_ready (rs := [10]) (by kernel_rfl) (by simp) ?_
          refine AllReadyH.cons rfl (fun K hK => ?_) AllReadyH.nil
          rw [if_pos (by kernel_rfl)]
          refine wp_store_row 34 _ _ rfl _ (cellsB N14) rfl rfl 34 _ KB91.out infoSB rfl (cellsB_one _) ?_
          have S92 := Lib.hid (S91.out.row L90.out (cellsB N14))
          have KP92 := Lib.hid (show PtBlk 30 (World.setRow _ _ (cellsB N14)) _ R14 from (setRow_other _ _ _ _ (N90.out)).trans KP91.out)
          have KB92 := Lib.hid (KB91.out.row N14)
          refine hK.out _ _ S92.out (fun hHeld => ?_)
          clear hK
          try simp only [Act.put, List.getElem_toArray, List.getElem_cons_succ, List.getElem_cons_zero, List.setIfInBounds_toArray, List.set_cons_zero, List.set_cons_succ]
          refine wpAnyH_take (i := 11) (v := .bool false) rfl (by kernel_rfl) (by kernel_rfl) (by kernel_rfl) (fun _ _ _ h => h) (Or.inl ⟨by rfl, fun V h => by go_simp⟩) hHeld ?_
          try simp only [Act.put, List.getElem_toArray, List.getElem_cons_succ, List.getElem_cons_zero, List.setIfInBounds_toArray, List.set_cons_zero, List.set_cons_succ]
          refine wpAnyH_done (by kernel_rfl) ?_ _
          clear hHeld
          go_wp2_with fail
          go_meet
          exact ⟨_, _, rfl, rfl, rfl, L87.out, L90.out, KP92.out, KB92.out, S92.out⟩
        refine AllReadyH.cons rfl (fun K hK => ?_) AllReadyH.nil
        go_simp
        have S93 := Lib.hid (S88.out.alloc (.cells (cellsB zeroM) 34))
        have KB93 := Lib.hid (show BBlk 34 (World.alloc z88 _) (World.heap z88).size zeroM from heap_alloc_new z88 (.cells (cellsB zeroM) 34))
        have L93 := Lib.hid (And.intro S88.out.below.size S88.out.pt.lt)
        have N93 := Lib.hid (Nat.ne_of_lt KP88.out.lt)
        have KP93 := Lib.hid (pt_alloc KP88.out (.cells (cellsB zeroM) 34))
        refine hK.out _ _ S93.out (fun hHeld => ?_)
        clear hK
        try simp only [Act.put, List.getElem_toArray, List.getElem_cons_succ, List.getElem_cons_zero, List.setIfInBounds_toArray, List.set_cons_zero, List.set_cons_succ]
        refine wpAnyH_ready (rs := [2]) (by kernel_rfl) (by simp) ?_
        refine AllReadyH.cons rfl (fun K hK => ?_) AllReadyH.nil
        go_simp
        refine (CT.out _ S93.out.roles).mono ?_
        rintro e z94 ⟨rfl, hz⟩
        have S94 := Lib.hid (S93.out.next hz)
        have KP94 := Lib.hid (PtBlk.next (pt_drew' KP93.out) hz)
        have KB94 := Lib.hid (BBlk.next (bp_drew' KB93.out) hz)
        clear hz hHeld
        go_simp
        refine hK.out _ _ S94.out (fun hHeld => ?_)
        clear hK
        try simp only [Act.put, List.getElem_toArray, List.getElem_cons_succ, List.getElem_cons_zero, List.setIfInBounds_toArray, List.set_cons_zero, List.set_cons_succ]
        refine wpAnyH_take (i := 3) (v := .tuple #[.agg (cellsT R14), N14.val, .bool false]) rfl (by kernel_rfl) (by kernel_rfl) (by kernel_rfl) (fun _ _ _ h => h) (Or.inl ⟨by rfl, fun V h => by go_simp⟩) hHeld ?_
        try simp only [Act.put, List.getElem_toArray, List.getElem_cons_succ, List.getElem_cons_zero, List.setIfInBounds_toArray, List.set_cons_zero, List.set_cons_succ]
        refine wpAnyH_take (i := 4) (v := .agg (cellsT R14)) rfl (by kernel_rfl) (by kernel_rfl) (by kernel_rfl) (fun _ _ _ h => h) (Or.inl ⟨by rfl, fun V h => by go_simp⟩) hHeld ?_
        try simp only [Act.put, List.getElem_toArray, List.getElem_cons_succ, List.getElem_cons_zero, List.setIfInBounds_toArray, List.set_cons_zero, List.set_cons_succ]
        refine wpAnyH_take (i := 5) (v := N14.val) rfl (by kernel_rfl) (by kernel_rfl) (by kernel_rfl) (fun _ _ _ h => h) (Or.inl ⟨by rfl, fun V h => by go_simp⟩) hHeld ?_
        try simp only [Act.put, List.getElem_toArray, List.getElem_cons_succ, List.getElem_cons_zero, List.setIfInBounds_toArray, List.set_cons_zero, List.set_cons_succ]
        refine wpAnyH_take (i := 6) (v := .bool false) rfl (by kernel_rfl) (by kernel_rfl) (by kernel_rfl) (fun _ _ _ h => h) (Or.inl ⟨by rfl, fun V h => by go_simp⟩) hHeld ?_
        try simp only [Act.put, List.getElem_toArray, List.getElem_cons_succ, List.getElem_cons_zero, List.setIfInBounds_toArray, List.set_cons_zero, List.set_cons_succ]
        refine wpAnyH_ready (rs := [9]) (by kernel_rfl) (by simp) ?_
        refine AllReadyH.cons rfl (fun K hK => ?_) AllReadyH.nil
        rw [if_pos (by kernel_rfl)]
        refine wp_store_row 30 _ _ rfl _ (cellsT R14) rfl rfl 30 _ KP94.out infoSP rfl (cellsT_one _) ?_
        have S95 := Lib.hid (S94.out.row L87.out (cellsT R14))
        have KP95 := Lib.hid (KP94.out.row R14)
        have KB95 := Lib.hid (show BBlk 34 (World.setRow _ _ (cellsT R14)) _ zeroM from (setRow_other _ _ _ _ (N93.out.symm)).trans KB94.out)
        refine hK.out _ _ S95.out (fun hHeld => ?_)
        clear hK
        try simp only [Act.put, List.getElem_toArray, List.getElem_cons_succ, List.getElem_cons_zero, List.setIfInBounds_toArray, List.set_cons_zero, List.set_cons_succ]
        refine wpAnyH_ready (rs := [10]) (by kernel_rfl) (by simp) ?_
        refine AllReadyH.cons rfl (fun K hK => ?_) AllReadyH.nil
        rw [if_pos (by kernel_rfl)]
        refine wp_store_row 34 _ _ rfl _ (cellsB N14) rfl rfl 34 _ KB95.out infoSB rfl (cellsB_one _) ?_
        have S96 := Lib.hid (S95.out.row L93.out (cellsB N14))
        have KP96 := Lib.hid (show PtBlk 30 (World.setRow _ _ (cellsB N14)) _ R14 from (setRow_other _ _ _ _ (N93.out)).trans KP95.out)
        have KB96 := Lib.hid (KB95.out.row N14)
        refine hK.out _ _ S96.out (fun hHeld => ?_)
        clear hK
        try simp only [Act.put, List.getElem_toArray, List.getElem_cons_succ, List.getElem_cons_zero, List.setIfInBounds_toArray, List.set_cons_zero, List.set_cons_succ]
        refine wpAnyH_take (i := 11) (v := .bool false) rfl (by kernel_rfl) (by kernel_rfl) (by kernel_rfl) (fun _ _ _ h => h) (Or.inl ⟨by rfl, fun V h => by go_simp⟩) hHeld ?_
        try simp only [Act.put, List.getElem_toArray, List.getElem_cons_succ, List.getElem_cons_zero, List.setIfInBounds_toArray, List.set_cons_zero, List.set_cons_succ]
        refine wpAnyH_done (by kernel_rfl) ?_ _
        clear hHeld
        go_wp2_with fail
        go_meet
        exact ⟨_, _, rfl, rfl, rfl, L87.out, L93.out, KP96.out, KB96.out, S96.out⟩
      refine AllReadyH.cons rfl (fun K hK => ?_) AllReadyH.nil
      go_simp
      have S97 := Lib.hid (S87.out.alloc (.cells (cellsB zeroM) 34))
      have KB97 := Lib.hid (show BBlk 34 (World.alloc (World.alloc V (.cells (cellsT zeroP) 30)) _) ((World.heap V).size + 1) zeroM by have h := heap_alloc_new (World.alloc V (.cells (cellsT zeroP) 30)) (.cells (cellsB zeroM) 34); rw [size_box] at h; exact h)
      have L97 := Lib.hid (by have a := S87.out.below.size; have b := S87.out.pt.lt; rw [size_box] at a b; exact And.intro a b)
      have N97 := Lib.hid (Nat.ne_of_lt (by have a := KP87.out.lt; rw [size_box] at a; exact a))
      have KP97 := Lib.hid (pt_alloc KP87.out (.cells (cellsB zeroM) 34))
      refine hK.out _ _ S97.out.drew (fun hHeld => ?_)
      clear hK
      try simp only [Act.put, List.getElem_toArray, List.getElem_cons_succ, List.getElem_cons_zero, List.setIfInBounds_toArray, List.set_cons_zero, List.set_cons_succ]
      refine wpAnyH_ready (rs := [0]) (by kernel_rfl) (by simp) ?_
      refine AllReadyH.cons rfl (fun K hK => ?_) AllReadyH.nil
      go_simp
      (with_reducible refine (CU.out _).mono ?_)
      rintro e z98 ⟨rfl, hz⟩
      have S98 := Lib.hid (S97.out.drew.next hz)
      have KP98 := Lib.hid (PtBlk.next (pt_drew KP97.out) hz)
      have KB98 := Lib.hid (BBlk.next (bp_drew KB97.out) hz)
      clear hz hHeld
      go_simp
      refine hK.out _ _ S98.out (fun hHeld => ?_)
      clear hK
      try simp only [Act.put, List.getElem_toArray, List.getElem_cons_succ, List.getElem_cons_zero, List.setIfInBounds_toArray, List.set_cons_zero, List.set_cons_succ]
      refine wpAnyH_ready (rs := [2]) (by kernel_rfl) (by simp) ?_
      refine AllReadyH.cons rfl (fun K hK => ?_) AllReadyH.nil
      go_simp
      (with_reducible refine (CT.out _ S98.out.roles).mono ?_)
      rintro e z99 ⟨rfl, hz⟩
      have S99 := Lib.hid (S98.out.next hz)
      have KP99 := Lib.hid (PtBlk.next (pt_drew' KP98.out) hz)
      have KB99 := Lib.hid (BBlk.next (bp_drew' KB98.out) hz)
      clear hz hHeld
      go_simp
      refine hK.out _ _ S99.out (fun hHeld => ?_)
      clear hK
      try simp only [Act.put, List.getElem_toArray, List.getElem_cons_succ, List.getElem_cons_zero, List.setIfInBounds_toArray, List.set_cons_zero, List.set_cons_succ]
      refine wpAnyH_take (i := 3) (v := .tuple #[.agg (cellsT R14), N14.val, .bool false]) rfl (by kernel_rfl) (by kernel_rfl) (by kernel_rfl) (fun _ _ _ h => h) (Or.inl ⟨by rfl, fun V h => by go_simp⟩) hHeld ?_
      try simp only [Act.put, List.getElem_toArray, List.getElem_cons_succ, List.getElem_cons_zero, List.setIfInBounds_toArray, List.set_cons_zero, List.set_cons_succ]
      refine wpAnyH_take (i := 4) (v := .agg (cellsT R14)) rfl (by kernel_rfl) (by kernel_rfl) (by kernel_rfl) (fun _ _ _ h => h) (Or.inl ⟨by rfl, fun V h => by go_simp⟩) hHeld ?_
      try simp only [Act.put, List.getElem_toArray, List.getElem_cons_succ, List.getElem_cons_zero, List.setIfInBounds_toArray, List.set_cons_zero, List.set_cons_succ]
      refine wpAnyH_take (i := 5) (v := N14.val) rfl (by kernel_rfl) (by kernel_rfl) (by kernel_rfl) (fun _ _ _ h => h) (Or.inl ⟨by rfl, fun V h => by go_simp⟩) hHeld ?_
      try simp only [Act.put, List.getElem_toArray, List.getElem_cons_succ, List.getElem_cons_zero, List.setIfInBounds_toArray, List.set_cons_zero, List.set_cons_succ]
      refine wpAnyH_take (i := 6) (v := .bool false) rfl (by kernel_rfl) (by kernel_rfl) (by kernel_rfl) (fun _ _ _ h => h) (Or.inl ⟨by rfl, fun V h => by go_simp⟩) hHeld ?_
      try simp only [Act.put, List.getElem_toArray, List.getElem_cons_succ, List.getElem_cons_zero, List.setIfInBounds_toArray, List.set_cons_zero, List.set_cons_succ]
      refine wpAnyH_ready (rs := [9]) (by kernel_rfl) (by simp) ?_
      refine AllReadyH.cons rfl (fun K hK => ?_) AllReadyH.nil
      rw [if_pos (by kernel_rfl)]
      refine wp_store_row 30 _ _ rfl _ (cellsT R14) rfl rfl 30 _ KP99.out infoSP rfl (cellsT_one _) ?_
      have S100 := Lib.hid (S99.out.row L87.out (cellsT R14))
      have KP100 := Lib.hid (KP99.out.row R14)
      have KB100 := Lib.hid (show BBlk 34 (World.setRow _ _ (cellsT R14)) _ zeroM from (setRow_other _ _ _ _ (N97.out.symm)).trans KB99.out)
      refine hK.out _ _ S100.out (fun hHeld => ?_)
      clear hK
      try simp only [Act.put, List.getElem_toArray, List.getElem_cons_succ, List.getElem_cons_zero, List.setIfInBounds_toArray, List.set_cons_zero, List.set_cons_succ]
      refine wpAnyH_ready (rs := [10]) (by kernel_rfl) (by simp) ?_
      refine AllReadyH.cons rfl (fun K hK => ?_) AllReadyH.nil
      rw [if_pos (by kernel_rfl)]
      refine wp_store_row 34 _ _ rfl _ (cellsB N14) rfl rfl 34 _ KB100.out infoSB rfl (cellsB_one _) ?_
      have S101 := Lib.hid (S100.out.row L97.out (cellsB N14))
      have KP101 := Lib.hid (show PtBlk 30 (World.setRow _ _ (cellsB N14)) _ R14 from (setRow_other _ _ _ _ (N97.out)).trans KP100.out)
      have KB101 := Lib.hid (KB100.out.row N14)
      refine hK.out _ _ S101.out (fun hHeld => ?_)
      clear hK
      try simp only [Act.put, List.getElem_toArray, List.getElem_cons_succ, List.getElem_cons_zero, List.setIfInBounds_toArray, List.set_cons_zero, List.set_cons_succ]
      refine wpAnyH_take (i := 11) (v := .bool false) rfl (by kernel_rfl) (by kernel_rfl) (by kernel_rfl) (fun _ _ _ h => h) (Or.inl ⟨by rfl, fun V h => by go_simp⟩) hHeld ?_
      try simp only [Act.put, List.getElem_toArray, List.getElem_cons_succ, List.getElem_cons_zero, List.setIfInBounds_toArray, List.set_cons_zero, List.set_cons_succ]
      refine wpAnyH_done (by kernel_rfl) ?_ _
      clear hHeld
      go_wp2_with fail
      go_meet
      exact ⟨_, _, rfl, rfl, rfl, L87.out, L97.out, KP101.out, KB101.out, S101.out⟩
    refine AllReadyH.cons rfl (fun K hK => ?_) AllReadyH.nil
    go_simp
    have S102 := Lib.hid (S1.out.alloc (.cells (cellsB zeroM) 34))
    have KB102 := Lib.hid (show BBlk 34 (World.alloc V _) (World.heap V).size zeroM from heap_alloc_new V (.cells (cellsB zeroM) 34))
    have L102 := Lib.hid (And.intro S1.out.below.size S1.out.pt.lt)
    refine hK.out _ _ S102.out.drew (fun hHeld => ?_)
    clear hK
    try simp only [Act.put, List.getElem_toArray, List.getElem_cons_succ, List.getElem_cons_zero, List.setIfInBounds_toArray, List.set_cons_zero, List.set_cons_succ]
    refine wpAnyH_ready (rs := [0, 7]) (by kernel_rfl) (by simp) ?_
    refine AllReadyH.cons rfl (fun K hK => ?_) ?_
    · go_simp
      (with_reducible refine (CU.out _).mono ?_)
      rintro e z103 ⟨rfl, hz⟩
      have S103 := Lib.hid (S102.out.drew.next hz)
      have KB103 := Lib.hid (BBlk.next (bp_drew KB102.out) hz)
      clear hz hHeld
      go_simp
      refine hK.out _ _ S103.out (fun hHeld => ?_)
      clear hK
      try simp only [Act.put, List.getElem_toArray, List.getElem_cons_succ, List.getElem_cons_zero, List.setIfInBounds_toArray, List.set_cons_zero, List.set_cons_succ]
      refine wpAnyH_ready (rs := [2, 7]) (by kernel_rfl) (by simp) ?_
      refine AllReadyH.cons rfl (fun K hK => ?_) ?_
      · go_simp
        (with_reducible refine (CT.out _ S103.out.roles).mono ?_)
        rintro e z104 ⟨rfl, hz⟩
        have S104 := Lib.hid (S103.out.next hz)
        have KB104 := Lib.hid (BBlk.next (bp_drew' KB103.out) hz)
        clear hz hHeld
        go_simp
        refine hK.out _ _ S104.out (fun hHeld => ?_)
        clear hK
        try simp only [Act.put, List.getElem_toArray, List.getElem_cons_succ, List.getElem_cons_zero, List.setIfInBounds_toArray, List.set_cons_zero, List.set_cons_succ]
        refine wpAnyH_take (i := 3) (v := .tuple #[.agg (cellsT R14), N14.val, .bool false]) rfl (by kernel_rfl) (by kernel_rfl) (by kernel_rfl) (fun _ _ _ h => h) (Or.inl ⟨by rfl, fun V h => by go_simp⟩) hHeld ?_
        try simp only [Act.put, List.getElem_toArray, List.getElem_cons_succ, List.getElem_cons_zero, List.setIfInBounds_toArray, List.set_cons_zero, List.set_cons_succ]
        refine wpAnyH_take (i := 4) (v := .agg (cellsT R14)) rfl (by kernel_rfl) (by kernel_rfl) (by kernel_rfl) (fun _ _ _ h => h) (Or.inl ⟨by rfl, fun V h => by go_simp⟩) hHeld ?_
        try simp only [Act.put, List.getElem_toArray, List.getElem_cons_succ, List.getElem_cons_zero, List.setIfInBounds_toArray, List.set_cons_zero, List.set_cons_succ]
        refine wpAnyH_take (i := 5) (v := N14.val) rfl (by kernel_rfl) (by kernel_rfl) (by kernel_rfl) (fun _ _ _ h => h) (Or.inl ⟨by rfl, fun V h => by go_simp⟩) hHeld ?_
        try simp only [Act.put, List.getElem_toArray, List.getElem_cons_succ, List.getElem_cons_zero, List.setIfInBounds_toArray, List.set_cons_zero, List.set_cons_succ]
        refine wpAnyH_take (i := 6) (v := .bool false) rfl (by kernel_rfl) (by kernel_rfl) (by kernel_rfl) (fun _ _ _ h => h) (Or.inl ⟨by rfl, fun V h => by go_simp⟩) hHeld ?_
        try simp only [Act.put, List.getElem_toArray, List.getElem_cons_succ, List.getElem_cons_zero, List.setIfInBounds_toArray, List.set_cons_zero, List.set_cons_succ]
        refine wpAnyH_ready (rs := [7]) (by kernel_rfl) (by simp) ?_
        refine AllReadyH.cons rfl (fun K hK => ?_) AllReadyH.nil
        go_simp
        have S105 := Lib.hid (S104.out.alloc (.cells (cellsT zeroP) 30))
        have KP105 := Lib.hid (show PtBlk 30 (World.alloc z104 _) (World.heap z104).size zeroP from heap_alloc_new z104 (.cells (cellsT zeroP) 30))
        have L105 := Lib.hid (And.intro S104.out.below.size S104.out.pt.lt)
        have N105 := Lib.hid (Nat.ne_of_lt KB104.out.lt)
        have KB105 := Lib.hid (bp_alloc KB104.out (.cells (cellsT zeroP) 30))
        refine hK.out _ _ S105.out (fun hHeld => ?_)
        clear hK
        try simp only [Act.put, List.getElem_toArray, List.getElem_cons_succ, List.getElem_cons_zero, List.setIfInBounds_toArray, List.set_cons_zero, List.set_cons_succ]
        refine wpAnyH_ready (rs := [9]) (by kernel_rfl) (by simp) ?_
        refine AllReadyH.cons rfl (fun K hK => ?_) AllReadyH.nil
        rw [if_pos (by kernel_rfl)]
        refine wp_store_row 30 _ _ rfl _ (cellsT R14) rfl rfl 30 _ KP105.out infoSP rfl (cellsT_one _) ?_
        have S106 := Lib.hid (S105.out.row L105.out (cellsT R14))
        have KP106 := Lib.hid (KP105.out.row R14)
        have KB106 := Lib.hid (show BBlk 34 (World.setRow _ _ (cellsT R14)) _ zeroM from (setRow_other _ _ _ _ (N105.out)).trans KB105.out)
        refine hK.out _ _ S106.out (fun hHeld => ?_)
        clear hK
        try simp only [Act.put, List.getElem_toArray, List.getElem_cons_succ, List.getElem_cons_zero, List.setIfInBounds_toArray, List.set_cons_zero, List.set_cons_succ]
        refine wpAnyH_ready (rs := [10]) (by kernel_rfl) (by simp) ?_
        refine AllReadyH.cons rfl (fun K hK => ?_) AllReadyH.nil
        rw [if_pos (by kernel_rfl)]
        refine wp_store_row 34 _ _ rfl _ (cellsB N14) rfl rfl 34 _ KB106.out infoSB rfl (cellsB_one _) ?_
        have S107 := Lib.hid (S106.out.row L102.out (cellsB N14))
        have KP107 := Lib.hid (show PtBlk 30 (World.setRow _ _ (cellsB N14)) _ R14 from (setRow_other _ _ _ _ (N105.out.symm)).trans KP106.out)
        have KB107 := Lib.hid (KB106.out.row N14)
        refine hK.out _ _ S107.out (fun hHeld => ?_)
        clear hK
        try simp only [Act.put, List.getElem_toArray, List.getElem_cons_succ, List.getElem_cons_zero, List.setIfInBounds_toArray, List.set_cons_zero, List.set_cons_succ]
        refine wpAnyH_take (i := 11) (v := .bool false) rfl (by kernel_rfl) (by kernel_rfl) (by kernel_rfl) (fun _ _ _ h => h) (Or.inl ⟨by rfl, fun V h => by go_simp⟩) hHeld ?_
        try simp only [Act.put, List.getElem_toArray, List.getElem_cons_succ, List.getElem_cons_zero, List.setIfInBounds_toArray, List.set_cons_zero, List.set_cons_succ]
        refine wpAnyH_done (by kernel_rfl) ?_ _
        clear hHeld
        go_wp2_with fail
        go_meet
        exact ⟨_, _, rfl, rfl, rfl, L105.out, L102.out, KP107.out, KB107.out, S107.out⟩
      refine AllReadyH.cons rfl (fun K hK => ?_) AllReadyH.nil
      go_simp
      have S108 := Lib.hid (S103.out.alloc (.cells (cellsT zeroP) 30))
      have KP108 := Lib.hid (show PtBlk 30 (World.alloc z103 _) (World.heap z103).size zeroP from heap_alloc_new z103 (.cells (cellsT zeroP) 30))
      have L108 := Lib.hid (And.intro S103.out.below.size S103.out.pt.lt)
      have N108 := Lib.hid (Nat.ne_of_lt KB103.out.lt)
      have KB108 := Lib.hid (bp_alloc KB103.out (.cells (cellsT zeroP) 30))
      refine hK.out _ _ S108.out (fun hHeld => ?_)
      clear hK
      try simp only [Act.put, List.getElem_toArray, List.getElem_cons_succ, List.getElem_cons_zero, List.setIfInBounds_toArray, List.set_cons_zero, List.set_cons_succ]
      refine wpAnyH_ready (rs := [2]) (by kernel_rfl) (by simp) ?_
      refine AllReadyH.cons rfl (fun K hK => ?_) AllReadyH.nil
      go_simp
      refine (CT.out _ S108.out.roles).mono ?_
      rintro e z109 ⟨rfl, hz⟩
      have S109 := Lib.hid (S108.out.next hz)
      have KP109 := Lib.hid (PtBlk.next (pt_drew' KP108.out) hz)
      have KB109 := Lib.hid (BBlk.next (bp_drew' KB108.out) hz)
      clear hz hHeld
      go_simp
      refine hK.out _ _ S109.out (fun hHeld => ?_)
      clear hK
      try simp only [Act.put, List.getElem_toArray, List.getElem_cons_succ, List.getElem_cons_zero, List.setIfInBounds_toArray, List.set_cons_zero, List.set_cons_succ]
      refine wpAnyH_take (i := 3) (v := .tuple #[.agg (cellsT R14), N14.val, .bool false]) rfl (by kernel_rfl) (by kernel_rfl) (by kernel_rfl) (fun _ _ _ h => h) (Or.inl ⟨by rfl, fun V h => by go_simp⟩) hHeld ?_
      try simp only [Act.put, List.getElem_toArray, List.getElem_cons_succ, List.getElem_cons_zero, List.setIfInBounds_toArray, List.set_cons_zero, List.set_cons_succ]
      refine wpAnyH_take (i := 4) (v := .agg (cellsT R14)) rfl (by kernel_rfl) (by kernel_rfl) (by kernel_rfl) (fun _ _ _ h => h) (Or.inl ⟨by rfl, fun V h => by go_simp⟩) hHeld ?_
      try simp only [Act.put, List.getElem_toArray, List.getElem_cons_succ, List.getElem_cons_zero, List.setIfInBounds_toArray, List.set_cons_zero, List.set_cons_succ]
      refine wpAnyH_take (i := 5) (v := N14.val) rfl (by kernel_rfl) (by kernel_rfl) (by kernel_rfl) (fun _ _ _ h => h) (Or.inl ⟨by rfl, fun V h => by go_simp⟩) hHeld ?_
      try simp only [Act.put, List.getElem_toArray, List.getElem_cons_succ, List.getElem_cons_zero, List.setIfInBounds_toArray, List.set_cons_zero, List.set_cons_succ]
      refine wpAnyH_take (i := 6) (v := .bool false) rfl (by kernel_rfl) (by kernel_rfl) (by kernel_rfl) (fun _ _ _ h => h) (Or.inl ⟨by rfl, fun V h => by go_simp⟩) hHeld ?_
      try simp only [Act.put, List.getElem_toArray, List.getElem_cons_succ, List.getElem_cons_zero, List.setIfInBounds_toArray, List.set_cons_zero, List.set_cons_succ]
      refine wpAnyH_ready (rs := [9]) (by kernel_rfl) (by simp) ?_
      refine AllReadyH.cons rfl (fun K hK => ?_) AllReadyH.nil
      rw [if_pos (by kernel_rfl)]
      refine wp_store_row 30 _ _ rfl _ (cellsT R14) rfl rfl 30 _ KP109.out infoSP rfl (cellsT_one _) ?_
      have S110 := Lib.hid (S109.out.row L108.out (cellsT R14))
      have KP110 := Lib.hid (KP109.out.row R14)
      have KB110 := Lib.hid (show BBlk 34 (World.setRow _ _ (cellsT R14)) _ zeroM from (setRow_other _ _ _ _ (N108.out)).trans KB109.out)
      refine hK.out _ _ S110.out (fun hHeld => ?_)
      clear hK
      try simp only [Act.put, List.getElem_toArray, List.getElem_cons_succ, List.getElem_cons_zero, List.setIfInBounds_toArray, List.set_cons_zero, List.set_cons_succ]
      refine wpAnyH_ready (rs := [10]) (by kernel_rfl) (by simp) ?_
      refine AllReadyH.cons rfl (fun K hK => ?_) AllReadyH.nil
      rw [if_pos (by kernel_rfl)]
      refine wp_store_row 34 _ _ rfl _ (cellsB N14) rfl rfl 34 _ KB110.out infoSB rfl (cellsB_one _) ?_
      have S111 := Lib.hid (S110.out.row L102.out (cellsB N14))
      have KP111 := Lib.hid (show PtBlk 30 (World.setRow _ _ (cellsB N14)) _ R14 from (setRow_other _ _ _ _ (N108.out.symm)).trans KP110.out)
      have KB111 := Lib.hid (KB110.out.row N14)
      refine hK.out _ _ S111.out (fun hHeld => ?_)
      clear hK
      try simp only [Act.put, List.getElem_toArray, List.getElem_cons_succ, List.getElem_cons_zero, List.setIfInBounds_toArray, List.set_cons_zero, List.set_cons_succ]
      refine wpAnyH_take (i := 11) (v := .bool false) rfl (by kernel_rfl) (by kernel_rfl) (by kernel_rfl) (fun _ _ _ h => h) (Or.inl ⟨by rfl, fun V h => by go_simp⟩) hHeld ?_
      try simp only [Act.put, List.getElem_toArray, List.getElem_cons_succ, List.getElem_cons_zero, List.setIfInBounds_toArray, List.set_cons_zero, List.set_cons_succ]
      refine wpAnyH_done (by kernel_rfl) ?_ _
      clear hHeld
      go_wp2_with fail
      go_meet
      exact ⟨_, _, rfl, rfl, rfl, L108.out, L102.out, KP111.out, KB111.out, S111.out⟩
    refine AllReadyH.cons rfl (fun K hK => ?_) AllReadyH.nil
    go_simp
    have S112 := Lib.hid (S102.out.alloc (.cells (cellsT zeroP) 30))
    have KP112 := Lib.hid (show PtBlk 30 (World.alloc (World.alloc V (.cells (cellsB zeroM) 34)) _) ((World.heap V).size + 1) zeroP by have h := heap_alloc_new (World.alloc V (.cells (cellsB zeroM) 34)) (.cells (cellsT zeroP) 30); rw [size_box] at h; exact h)
    have L112 := Lib.hid (by have a := S102.out.below.size; have b := S102.out.pt.lt; rw [size_box] at a b; exact And.intro a b)
    have N112 := Lib.hid (Nat.ne_of_lt (by have a := KB102.out.lt; rw [size_box] at a; exact a))
    have KB112 := Lib.hid (bp_alloc KB102.out (.cells (cellsT zeroP) 30))
    refine hK.out _ _ S112.out.drew (fun hHeld => ?_)
    clear hK
    try simp only [Act.put, List.getElem_toArray, List.getElem_cons_succ, List.getElem_cons_zero, List.setIfInBounds_toArray, List.set_cons_zero, List.set_cons_succ]
    refine wpAnyH_ready (rs := [0]) (by kernel_rfl) (by simp) ?_
    refine AllReadyH.cons rfl (fun K hK => ?_) AllReadyH.nil
    go_simp
    (with_reducible refine (CU.out _).mono ?_)
    rintro e z113 ⟨rfl, hz⟩
    have S113 := Lib.hid (S112.out.drew.next hz)
    have KP113 := Lib.hid (PtBlk.next (pt_drew KP112.out) hz)
    have KB113 := Lib.hid (BBlk.next (bp_drew KB112.out) hz)
    clear hz hHeld
    go_simp
    refine hK.out _ _ S113.out (fun hHeld => ?_)
    clear hK
    try simp only [Act.put, List.getElem_toArray, List.getElem_cons_succ, List.getElem_cons_zero, List.setIfInBounds_toArray, List.set_cons_zero, List.set_cons_succ]
    refine wpAnyH_ready (rs := [2]) (by kernel_rfl) (by simp) ?_
    refine AllReadyH.cons rfl (fun K hK => ?_) AllReadyH.nil
    go_simp
    (with_reducible refine (CT.out _ S113.out.roles).mono ?_)
    rintro e z114 ⟨rfl, hz⟩
    have S114 := Lib.hid (S113.out.next hz)
    have KP114 := Lib.hid (PtBlk.next (pt_drew' KP113.out) hz)
    have KB114 := Lib.hid (BBlk.next (bp_drew' KB113.out) hz)
    clear hz hHeld
    go_simp
    refine hK.out _ _ S114.out (fun hHeld => ?_)
    clear hK
    try simp only [Act.put, List.getElem_toArray, List.getElem_cons_succ, List.getElem_cons_zero, List.setIfInBounds_toArray, List.set_cons_zero, List.set_cons_succ]
    refine wpAnyH_take (i := 3) (v := .tuple #[.agg (cellsT R14), N14.val, .bool false]) rfl (by kernel_rfl) (by kernel_rfl) (by kernel_rfl) (fun _ _ _ h => h) (Or.inl ⟨by rfl, fun V h => by go_simp⟩) hHeld ?_
    try simp only [Act.put, List.getElem_toArray, List.getElem_cons_succ, List.getElem_cons_zero, List.setIfInBounds_toArray, List.set_cons_zero, List.set_cons_succ]
    refine wpAnyH_take (i := 4) (v := .agg (cellsT R14)) rfl (by kernel_rfl) (by kernel_rfl) (by kernel_rfl) (fun _ _ _ h => h) (Or.inl ⟨by rfl, fun V h => by go_simp⟩) hHeld ?_
    try simp only [Act.put, List.getElem_toArray, List.getElem_cons_succ, List.getElem_cons_zero, List.setIfInBounds_toArray, List.set_cons_zero, List.set_cons_succ]
    refine wpAnyH_take (i := 5) (v := N14.val) rfl (by kernel_rfl) (by kernel_rfl) (by kernel_rfl) (fun _ _ _ h => h) (Or.inl ⟨by rfl, fun V h => by go_simp⟩) hHeld ?_
    try simp only [Act.put, List.getElem_toArray, List.getElem_cons_succ, List.getElem_cons_zero, List.setIfInBounds_toArray, List.set_cons_zero, List.set_cons_succ]
    refine wpAnyH_take (i := 6) (v := .bool false) rfl (by kernel_rfl) (by kernel_rfl) (by kernel_rfl) (fun _ _ _ h => h) (Or.inl ⟨by rfl, fun V h => by go_simp⟩) hHeld ?_
    try simp only [Act.put, List.getElem_toArray, List.getElem_cons_succ, List.getElem_cons_zero, List.setIfInBounds_toArray, List.set_cons_zero, List.set_cons_succ]
    refine wpAnyH_ready (rs := [9]) (by kernel_rfl) (by simp) ?_
    refine AllReadyH.cons rfl (fun K hK => ?_) AllReadyH.nil
    rw [if_pos (by kernel_rfl)]
    refine wp_store_row 30 _ _ rfl _ (cellsT R14) rfl rfl 30 _ KP114.out infoSP rfl (cellsT_one _) ?_
    have S115 := Lib.hid (S114.out.row L112.out (cellsT R14))
    have KP115 := Lib.hid (KP114.out.row R14)
    have KB115 := Lib.hid (show BBlk 34 (World.setRow _ _ (cellsT R14)) _ zeroM from (setRow_other _ _ _ _ (N112.out)).trans KB114.out)
    refine hK.out _ _ S115.out (fun hHeld => ?_)
    clear hK
    try simp only [Act.put, List.getElem_toArray, List.getElem_cons_succ, List.getElem_cons_zero, List.setIfInBounds_toArray, List.set_cons_zero, List.set_cons_succ]
    refine wpAnyH_ready (rs := [10]) (by kernel_rfl) (by simp) ?_
    refine AllReadyH.cons rfl (fun K hK => ?_) AllReadyH.nil
    rw [if_pos (by kernel_rfl)]
    refine wp_store_row 34 _ _ rfl _ (cellsB N14) rfl rfl 34 _ KB115.out infoSB rfl (cellsB_one _) ?_
    have S116 := Lib.hid (S115.out.row L102.out (cellsB N14))
    have KP116 := Lib.hid (show PtBlk 30 (World.setRow _ _ (cellsB N14)) _ R14 from (setRow_other _ _ _ _ (N112.out.symm)).trans KP115.out)
    have KB116 := Lib.hid (KB115.out.row N14)
    refine hK.out _ _ S116.out (fun hHeld => ?_)
    clear hK
    try simp only [Act.put, List.getElem_toArray, List.getElem_cons_succ, List.getElem_cons_zero, List.setIfInBounds_toArray, List.set_cons_zero, List.set_cons_succ]
    refine wpAnyH_take (i := 11) (v := .bool false) rfl (by kernel_rfl) (by kernel_rfl) (by kernel_rfl) (fun _ _ _ h => h) (Or.inl ⟨by rfl, fun V h => by go_simp⟩) hHeld ?_
    try simp only [Act.put, List.getElem_toArray, List.getElem_cons_succ, List.getElem_cons_zero, List.setIfInBounds_toArray, List.set_cons_zero, List.set_cons_succ]
    refine wpAnyH_done (by kernel_rfl) ?_ _
    clear hHeld
    go_wp2_with fail
    go_meet
    exact ⟨_, _, rfl, rfl, rfl, L112.out, L102.out, KP116.out, KB116.out, S116.out⟩
  case rest =>
  obtain ⟨n2, m2, rfl, rfl, rfl, hn2, hm2, kp2, kb2, s2⟩ := hcut
  have KP2 := Lib.hid (KP1.out.next s2.below)
  have KM2 := Lib.hid (KM1.out.next s2.below)
  have B2 := Lib.hid (bw_trans B1.out s2.below)
  clear kp2 kb2 s2 S1 KP1 KM1 B1 hn2 hm2
  go_upto_region 5 with (first
    | (with_reducible refine wpList_built rfl 30 _ rfl (cellsT B14) (by kernel_rfl) ?_)
    | (go_at_call 11; (with_reducible refine (CTo.out _).mono ?_); rintro e w3 ⟨rfl, hb3⟩)
    | (refine wpList_ptst rfl _ _ rfl w3.heap.size rfl C14 zeroP rfl (ptblk_new _ w3 zeroP) ?_))
  obtain ⟨V3, n3, HV3, HN3, k3, kB3, kL3⟩ := fillS_is w3 C14
  refine wp_to (W := V3) (by exact HV3.out.symm) ?_
  rw [HN3.out]
  have KP3 := Lib.hid ((KP2.out.next hb3).next (HN3.out ▸ kB3))
  have KM3 := Lib.hid ((KM2.out.next hb3).next (HN3.out ▸ kB3))
  have B3 := Lib.hid (bw_trans (bw_trans B2.out hb3) (HN3.out ▸ kB3))
  have KC3 := Lib.hid k3
  clear HV3 HN3 k3 kB3 kL3 hb3 KP2 KM2 B2
  go_upto_region 6 with (first
    | (with_reducible refine wpList_built rfl 30 _ rfl (cellsT D14) (by kernel_rfl) ?_)
    | (go_at_call 12; (with_reducible refine (CEd.out _).mono ?_); rintro e w4 ⟨rfl, hb4⟩)
    | (refine wpList_ptst rfl _ _ rfl w4.heap.size rfl E14 zeroP rfl (ptblk_new _ w4 zeroP) ?_))
  obtain ⟨V4, n4, HV4, HN4, k4, kB4, kL4⟩ := fillS_is w4 E14
  refine wp_to (W := V4) (by exact HV4.out.symm) ?_
  rw [HN4.out]
  have KP4 := (KP3.out.next hb4).next (HN4.out ▸ kB4)
  have KM4 := (KM3.out.next hb4).next (HN4.out ▸ kB4)
  have KC4 := (KC3.out.next hb4).next (HN4.out ▸ kB4)
  have B4 := Lib.hid (bw_trans (bw_trans B3.out hb4) (HN4.out ▸ kB4))
  obtain ⟨f0, f1, f2, f3, f4, f5, f6, f7, f8⟩ := facts_14
  have c0 := KM4.rd.1
  have c1 := KM4.rd.2.1
  have c2 := KM4.rd.2.2.2.2.2.2.2.1
  have c3 := KP4.c_txCount
  have c4 := KP4.c_hello
  have c5 := KC4.c_sendRstp
  have c6 := KC4.c_md
  have c7 := KC4.c_migrate
  have c8 := k4.c_oper
  rw [f0] at c0
  rw [f1] at c1
  rw [f2] at c2
  rw [f3] at c3
  rw [f4] at c4
  rw [f5] at c5
  rw [f6] at c6
  rw [f7] at c7
  rw [f8] at c8
  clear KP4 KM4 KC4 k4 kB4 kL4 HN4 HV4 hb4 KP3 KM3 KC3 B3 f0 f1 f2 f3 f4 f5 f6 f7 f8
  go_wp2
  go_ret
  exact ⟨ret_val rfl, B4.out⟩
end Go.Proofs.YtngdilmgbgdkcaaDoor
