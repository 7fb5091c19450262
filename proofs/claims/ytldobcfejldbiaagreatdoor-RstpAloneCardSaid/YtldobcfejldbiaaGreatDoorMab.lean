/-
  Plain mathematics of layer 15: a bridge that hears nothing comes to rest. No program is named here.
  Plain mathematics of layer 15: a bridge that hears nothing comes to rest, and is the root; how it does. No program is named here.
  Plain mathematics of layer 15: whatever happens to a bridge that hears nothing, it is the root. No program is named here.
-/
import Derived.Test.YtldobcfejldbiaaGreatDoorMaa
namespace Go.Proofs.YtldobcfejldbiaaGreatDoor
set_option linter.unusedVariables false
set_option linter.unusedSimpArgs false
namespace Im
open Vm Rm Bm

/-! ### A port of a bridge that hears nothing -/
def ownO (br : Int) (p : Pt) : Vc := ⟨br, 0, br, p.id⟩
/-- It never heard anything. -/
structure Deaf (br : Int) (t : Tm) (p : Pt) : Prop where
  onS : p.on = true → p.source = 1 ∨ p.source = 2
  offS : p.on = false → p.source = 0
  sync : p.sync = false
  reroot : p.reroot = false
  disputed : p.disputed = false
  proposed : p.proposed = false
  agree : p.agree = false
  hTc : p.heardTc = false
  hTcn : p.heardTcn = false
  hAck : p.heardAck = false
  hRstp : p.heardRstp = false
  hStp : p.heardStp = false
  sRstp : p.sendRstp = true
  upd : p.update = false
  role : p.role = 0 ∨ p.role = 2
  off0 : p.role = 0 → p.learn = false ∧ p.forward = false
  adm : p.admin = true → p.oper = true
  safe : p.on = true → safeB p = true
/-- It has its role, and its offer. -/
structure Chosen (br : Int) (t : Tm) (p : Pt) : Prop where
  ready : p.ready = true
  resel : p.reselect = false
  sel : p.selected = if p.on = true then 2 else 0
  offer : p.offer = ownO br p
  src : p.on = true → p.source = 2
structure Dm (br : Int) (t : Tm) (p : Pt) : Prop where
  d : Deaf br t p
  c : Chosen br t p
/-- What a step of layer 13 touches is left out. -/
def coreK (p : Pt) : Pt := { p with tc := 0, newInfo := false, heardTc := false, heardTcn := false, heardAck := false, tcAck := false, tcProp := false, flush := false, change := 0 }

/-! What is still to be done of a port. -/
def b2 (b : Bool) : Nat := if b = true then 1 else 0
def phiT (p : Pt) : Nat :=
  if p.migrate = 0 then (if p.on = true then (if p.md = 0 then 2 else 0) else (if p.md = 3 then 0 else 1))
  else if p.migrate = 1 then 3
  else if p.migrate = 2 then (if p.on = true then b2 p.check else 2)
  else 0
def phiM (t : Tm) (p : Pt) : Nat :=
  if p.on = true then (if p.role = 2 then b2 (!p.proposing) + b2 (!p.synced) + b2 (!p.learn) + b2 (!p.forward) else 20)
  else (if p.role = 0 then b2 (!(decide (p.fd = t.max) && p.synced)) else 20)
def phiS (p : Pt) : Nat := if p.on = true then b2 (!p.learning) + b2 (!p.forwarding) else b2 p.learning + b2 p.forwarding
def phiE (p : Pt) : Nat := b2 (!p.oper)
def phi (t : Tm) (p : Pt) : Nat := phiM t p + phiS p + phiE p + phiT p
theorem phi_core (t : Tm) (p : Pt) : phi t (coreK p) = phi t p := rfl
/-- Behind a step: the same but for what layer 13 touches, or less is to be done. -/
def Dn (t : Tm) (p q : Pt) : Prop := coreK q = coreK p ∨ phi t q < phi t p
theorem Dn.trans {t : Tm} {a b c : Pt} (h : Dn t a b) (k : Dn t b c) : Dn t a c := by
  rcases h with h | h
  · rcases k with k | k
    · exact .inl (k.trans h)
    · refine .inr ?_
      rw [← phi_core t a, ← h, phi_core]
      exact k
  · rcases k with k | k
    · refine .inr ?_
      rw [← phi_core t c, k, phi_core]
      exact h
    · exact .inr (Nat.lt_trans k h)
theorem b2_le (b : Bool) : b2 b ≤ 1 := by cases b <;> decide
theorem phiM_le (t : Tm) (p : Pt) : phiM t p ≤ 20 := by
  unfold phiM
  have h1 := b2_le (!p.proposing)
  have h2 := b2_le (!p.synced)
  have h3 := b2_le (!p.learn)
  have h4 := b2_le (!p.forward)
  have h5 := b2_le (!(decide (p.fd = t.max) && p.synced))
  repeat' split
  all_goals omega
theorem phi_le (t : Tm) (p : Pt) : phi t p ≤ 30 := by
  have h0 := phiM_le t p
  have h1 := b2_le (!p.learning)
  have h2 := b2_le (!p.forwarding)
  have h3 := b2_le p.learning
  have h4 := b2_le p.forwarding
  have h5 := b2_le (!p.oper)
  have h6 := b2_le p.check
  unfold phi phiS phiE phiT
  repeat' split
  all_goals omega

/-! ### Its own move -/
def ownM (t : Tm) (p : Pt) : Pt := match moveF t true true p with | some m => m.own | none => p
/-- It hangs on no other port, and moves none. -/
theorem move_alone_is {br : Int} {t : Tm} {p : Pt} (h : Dm br t p) (so ro : Bool) : moveF t so ro p = if p.selected = p.role then (if p.role = 0 then blockF t true p else desF t p) else roleF' t p := by
  have e1 : (p.ready && !p.update) = true := by rw [h.c.ready, h.d.upd]; rfl
  unfold moveF
  rw [if_neg (by rw [e1]; decide)]
  by_cases hs : p.selected = p.role
  · rw [if_neg (by simpa using hs), if_pos hs]
    rcases h.d.role with hr | hr
    · rw [if_pos (.inl hr), if_pos hr]
      unfold blockF
      simp only [hr, decide_true, Bool.not_true, Bool.false_and, Bool.false_eq_true, if_false]
    · rw [if_neg (by omega), if_neg (by omega), if_pos hr, if_neg (by omega)]
  · rw [if_pos (by simpa using hs), if_neg hs]
theorem move_alone {br : Int} {t : Tm} {p : Pt} (h : Dm br t p) (so ro : Bool) : moveF t so ro p = moveF t true true p ∧ ∀ m, moveF t so ro p = some m → m.syncAll = false ∧ m.rerootAll = false := by
  have hp := h.d.proposed
  refine ⟨(move_alone_is h so ro).trans (move_alone_is h true true).symm, fun m hm => ?_⟩
  rw [move_alone_is h so ro] at hm
  split at hm
  · split at hm
    · rename_i hr
      unfold blockF at hm
      simp only [hr, decide_true, Bool.not_true, Bool.false_and, Bool.false_eq_true, if_false] at hm
      repeat' split at hm
      all_goals first | (cases hm; done) | (cases hm; exact ⟨rfl, rfl⟩)
    · unfold desF at hm
      repeat' split at hm
      all_goals first | (cases hm; done) | (cases hm; exact ⟨rfl, rfl⟩)
  · unfold roleF' at hm
    repeat' split at hm
    all_goals first | (cases hm; done) | (cases hm; exact ⟨rfl, rfl⟩)
/-- Behind it, it is as it was, or less is to be done; and it has its role. -/
theorem own_dm {br : Int} {t : Tm} {p : Pt} (h : Dm br t p) : Dm br t (ownM t p) ∧ (ownM t p).role = (ownM t p).selected ∧ Dn t p (ownM t p) := by
  have e1 : (p.ready && !p.update) = true := by rw [h.c.ready, h.d.upd]; rfl
  have hsel := h.c.sel
  have hmv := move_alone_is h true true
  obtain ⟨d, c⟩ := h
  unfold ownM
  rw [hmv]
  clear hmv
  by_cases hs : p.selected = p.role
  · rw [if_pos hs]
    rcases d.role with hr | hr
    · have hon : p.on = false := by
        cases ho : p.on with
        | false => rfl
        | true => rw [ho] at hsel; simp at hsel; omega
      obtain ⟨hl, hf⟩ := d.off0 hr
      rw [if_pos hr]
      cases hm : blockF t true p with
      | none => exact ⟨⟨d, c⟩, hs.symm, .inl rfl⟩
      | some m =>
        unfold blockF at hm
        simp only [hr, decide_true, Bool.not_true, Bool.false_and, Bool.false_eq_true, if_false, d.sync, d.reroot, if_true, Bool.false_or] at hm
        split at hm
        · rename_i hc
          cases hm
          refine ⟨⟨⟨fun e => absurd (show p.on = true from e) (by rw [hon]; decide), d.offS, rfl, rfl, d.disputed, d.proposed, d.agree, d.hTc, d.hTcn, d.hAck, d.hRstp, d.hStp, d.sRstp, d.upd, .inl rfl, fun _ => ⟨hl, hf⟩, d.adm, fun e => absurd (show p.on = true from e) (by rw [hon]; decide)⟩, ⟨c.ready, c.resel, c.sel, c.offer, c.src⟩⟩, ?_, .inr ?_⟩
          · show (0 : Int) = p.selected
            omega
          · show phi t _ < phi t _
            have e2 : phiM t { p with role := 0, fd := t.max, synced := true, rr := 0, sync := false, reroot := false } = 0 := by
              unfold phiM
              simp [hon, hr, b2]
            have e3 : 0 < phiM t p := by
              unfold phiM
              simp only [hon, hr, Bool.false_eq_true, if_false, if_true, b2]
              simp only [Bool.and_eq_true, Bool.or_eq_true, Bool.not_eq_true', decide_eq_false_iff_not] at hc
              split
              · omega
              · rename_i hn
                simp at hn
                rcases hc.2 with hx | hx
                · exact absurd hn.1 hx
                · rw [hn.2] at hx; cases hx
            show phiM t { p with role := 0, fd := t.max, synced := true, rr := 0, sync := false, reroot := false } + phiS p + phiE p + phiT p < phiM t p + phiS p + phiE p + phiT p
            rw [e2]
            omega
        · split at hm
          · rename_i hc
            simp at hc
          · cases hm
    · have hon : p.on = true := by
        cases ho : p.on with
        | true => rfl
        | false => rw [ho] at hsel; simp at hsel; omega
      have hsafe := d.safe hon
      rw [if_neg (by omega)]
      have keep : ∀ q : Pt, q.on = p.on → q.source = p.source → q.sync = false → q.reroot = false → q.disputed = false → q.proposed = false → q.agree = false → q.heardTc = p.heardTc → q.heardTcn = p.heardTcn → q.heardAck = p.heardAck → q.heardRstp = p.heardRstp → q.heardStp = p.heardStp → q.sendRstp = p.sendRstp → q.update = p.update → q.role = 2 → q.admin = p.admin → q.oper = p.oper → safeB q = true → q.ready = p.ready → q.reselect = p.reselect → q.selected = p.selected → q.offer = p.offer → q.id = p.id → Dm br t q := by
        intro q k1 k2 k3 k4 k5 k6 k7 k8 k9 k10 k11 k12 k13 k14 k15 k16 k17 k18 k19 k20 k21 k22 k23
        refine ⟨⟨?_, ?_, k3, k4, k5, k6, k7, ?_, ?_, ?_, ?_, ?_, ?_, ?_, .inr k15, ?_, ?_, fun _ => k18⟩, ⟨?_, ?_, ?_, ?_, ?_⟩⟩
        · rw [k1, k2]; exact d.onS
        · rw [k1, k2]; exact d.offS
        · rw [k8]; exact d.hTc
        · rw [k9]; exact d.hTcn
        · rw [k10]; exact d.hAck
        · rw [k11]; exact d.hRstp
        · rw [k12]; exact d.hStp
        · rw [k13]; exact d.sRstp
        · rw [k14]; exact d.upd
        · intro e; omega
        · rw [k16, k17]; exact d.adm
        · rw [k19]; exact c.ready
        · rw [k20]; exact c.resel
        · rw [k21, k1]; exact c.sel
        · rw [k22, c.offer]; unfold ownO; rw [k23]
        · rw [k1, k2]; exact c.src
      cases hm : desF t p with
      | none => exact ⟨⟨d, c⟩, hs.symm, .inl rfl⟩
      | some m =>
      unfold desF at hm
      split at hm
      · rename_i hc
        cases hm
        simp only [Bool.and_eq_true, Bool.not_eq_true'] at hc
        refine ⟨keep _ rfl rfl d.sync d.reroot d.disputed d.proposed d.agree rfl rfl rfl rfl rfl rfl rfl hr rfl rfl hsafe rfl rfl rfl rfl rfl, hs.symm, .inr ?_⟩
        show phiM t _ + phiS p + phiE p + phiT p < phiM t p + phiS p + phiE p + phiT p
        unfold phiM
        simp only [hon, hr, if_true, hc.2.2.1, b2, Bool.not_true, Bool.not_false, Bool.false_eq_true, if_false]
        omega
      · split at hm
        · rename_i h1 hc
          cases hm
          have hsy : p.synced = false := by
            cases hx : p.synced with
            | false => rfl
            | true => rw [hx, d.sync] at hc; simp at hc
          refine ⟨keep _ rfl rfl rfl d.reroot d.disputed d.proposed d.agree rfl rfl rfl rfl rfl rfl rfl hr rfl rfl hsafe rfl rfl rfl rfl rfl, hs.symm, .inr ?_⟩
          show phiM t _ + phiS p + phiE p + phiT p < phiM t p + phiS p + phiE p + phiT p
          unfold phiM
          simp only [hon, hr, if_true, hsy, b2, Bool.not_true, Bool.not_false, Bool.false_eq_true, if_false]
          omega
        · split at hm
          · rename_i h1 h2 hc
            cases hm
            rw [d.reroot] at hc
            simp at hc
          · split at hm
            · rename_i h1 h2 h3 hc
              cases hm
              unfold desStops at hc
              rw [d.reroot, d.sync, d.disputed] at hc
              simp at hc
            · split at hm
              · rename_i h1 h2 h3 h4 hc
                cases hm
                simp only [Bool.and_eq_true, Bool.not_eq_true'] at hc
                refine ⟨keep _ rfl rfl d.sync d.reroot d.disputed d.proposed d.agree rfl rfl rfl rfl rfl rfl rfl hr rfl rfl ?_ rfl rfl rfl rfl rfl, hs.symm, .inr ?_⟩
                · unfold safeB at hsafe ⊢
                  simp only [hc.2, Bool.false_or, Bool.true_or, Bool.true_and, Bool.and_eq_true] at hsafe ⊢
                  exact hsafe.2
                · show phiM t _ + phiS p + phiE p + phiT p < phiM t p + phiS p + phiE p + phiT p
                  unfold phiM
                  simp only [hon, hr, if_true, hc.2, b2, Bool.not_true, Bool.not_false, Bool.false_eq_true, if_false]
                  omega
              · split at hm
                · rename_i h1 h2 h3 h4 h5 hc
                  cases hm
                  simp only [Bool.and_eq_true, Bool.not_eq_true'] at hc
                  refine ⟨keep _ rfl rfl d.sync d.reroot d.disputed d.proposed d.agree rfl rfl rfl rfl rfl rfl rfl hr rfl rfl ?_ rfl rfl rfl rfl rfl, hs.symm, .inr ?_⟩
                  · unfold safeB at hsafe ⊢
                    simp only [hc.2, Bool.false_or, Bool.true_or, Bool.true_and, Bool.and_eq_true] at hsafe ⊢
                    exact ⟨hsafe.1, hsafe.2.2⟩
                  · show phiM t _ + phiS p + phiE p + phiT p < phiM t p + phiS p + phiE p + phiT p
                    unfold phiM
                    simp only [hon, hr, if_true, hc.2, b2, Bool.not_true, Bool.not_false, Bool.false_eq_true, if_false]
                    omega
                · cases hm
  · rw [if_neg hs]
    cases ho : p.on with
    | true =>
      have h2 : p.selected = 2 := by rw [hsel, ho]; rfl
      have hr : p.role = 0 := by rcases d.role with e | e; exact e; exact absurd (h2.trans e.symm) hs
      have hsafe := d.safe ho
      unfold roleF'
      rw [if_neg (by omega), if_neg (by omega), if_pos h2]
      refine ⟨⟨⟨d.onS, d.offS, d.sync, d.reroot, d.disputed, d.proposed, d.agree, d.hTc, d.hTcn, d.hAck, d.hRstp, d.hStp, d.sRstp, d.upd, .inr rfl, fun e => absurd (show (2 : Int) = 0 from e) (by decide), d.adm, d.safe⟩, ⟨c.ready, c.resel, c.sel, c.offer, c.src⟩⟩, h2.symm, .inr ?_⟩
      show phiM t { p with role := 2 } + phiS p + phiE p + phiT p < phiM t p + phiS p + phiE p + phiT p
      have e2 : phiM t p = 20 := by unfold phiM; simp [ho, hr]
      have e3 : phiM t { p with role := 2 } ≤ 4 := by
        unfold phiM
        simp only [ho, if_true]
        have h1 := b2_le (!p.proposing)
        have h2 := b2_le (!p.synced)
        have h3 := b2_le (!p.learn)
        have h4 := b2_le (!p.forward)
        omega
      omega
    | false =>
      have h0 : p.selected = 0 := by rw [hsel, ho]; rfl
      have hr : p.role = 2 := by rcases d.role with e | e; exact absurd (h0.trans e.symm) hs; exact e
      unfold roleF'
      rw [if_pos (.inl h0)]
      refine ⟨⟨⟨d.onS, d.offS, d.sync, d.reroot, d.disputed, d.proposed, d.agree, d.hTc, d.hTcn, d.hAck, d.hRstp, d.hStp, d.sRstp, d.upd, .inl h0, fun _ => ⟨rfl, rfl⟩, d.adm, fun e => absurd (show p.on = true from e) (by rw [ho]; decide)⟩, ⟨c.ready, c.resel, c.sel, c.offer, c.src⟩⟩, rfl, .inr ?_⟩
      show phiM t { p with role := p.selected, learn := false, forward := false } + phiS p + phiE p + phiT p < phiM t p + phiS p + phiE p + phiT p
      have e2 : phiM t p = 20 := by unfold phiM; simp [ho, hr]
      have e3 : phiM t { p with role := p.selected, learn := false, forward := false } ≤ 1 := by
        unfold phiM
        simp only [ho, h0, if_true, Bool.false_eq_true, if_false]
        exact b2_le _
      omega
/-! ### What it is to learn and to forward; tongue and edge -/
theorem state_dm {br : Int} {t : Tm} {p : Pt} (h : Dm br t p) (hr : p.role = p.selected) : Dm br t (stateP p) ∧ Dn t p (stateP p) := by
  obtain ⟨d, c⟩ := h
  have hsel := c.sel
  cases ho : p.on with
  | true =>
    have hs := d.safe ho
    have keep : ∀ x y : Bool, safeB { p with learning := x, forwarding := y } = true → Dm br t { p with learning := x, forwarding := y } := fun x y hxy =>
      ⟨⟨d.onS, d.offS, d.sync, d.reroot, d.disputed, d.proposed, d.agree, d.hTc, d.hTcn, d.hAck, d.hRstp, d.hStp, d.sRstp, d.upd, d.role, d.off0, d.adm, fun _ => hxy⟩, ⟨c.ready, c.resel, c.sel, c.offer, c.src⟩⟩
    have hss := state_safe p
    unfold safeB at hs
    simp only [Bool.and_eq_true, Bool.or_eq_true, Bool.not_eq_true'] at hs
    unfold stateP at hss ⊢
    split
    · rename_i hl
      rw [if_pos hl] at hss
      have h1 : p.learning = false ∧ p.forwarding = false := by rcases hs.1 with e | e; rw [hl] at e; cases e; exact e
      refine ⟨keep _ _ hss, .inl ?_⟩
      unfold coreK
      rw [h1.1, h1.2]
    · rename_i hl
      rw [if_neg hl] at hss
      split
      · rename_i hg
        rw [if_pos hg] at hss
        refine ⟨⟨⟨d.onS, d.offS, d.sync, d.reroot, d.disputed, d.proposed, d.agree, d.hTc, d.hTcn, d.hAck, d.hRstp, d.hStp, d.sRstp, d.upd, d.role, d.off0, d.adm, fun _ => hss⟩, ⟨c.ready, c.resel, c.sel, c.offer, c.src⟩⟩, .inr ?_⟩
        have hf : p.forwarding = false := by
          rcases hs.2.2 with e | e
          · exact e
          · rw [hg] at e; cases e
        show phiM t p + phiS { p with forwarding := p.forwarding && p.forward, learning := true } + phiE p + phiT p < phiM t p + phiS p + phiE p + phiT p
        unfold phiS
        simp only [ho, hf, hg, if_true, b2, Bool.false_and, Bool.not_true, Bool.not_false, Bool.false_eq_true, if_false]
        omega
      · rename_i hg
        rw [if_neg hg] at hss
        refine ⟨⟨⟨d.onS, d.offS, d.sync, d.reroot, d.disputed, d.proposed, d.agree, d.hTc, d.hTcn, d.hAck, d.hRstp, d.hStp, d.sRstp, d.upd, d.role, d.off0, d.adm, fun _ => hss⟩, ⟨c.ready, c.resel, c.sel, c.offer, c.src⟩⟩, ?_⟩
        by_cases hfe : p.forwarding = p.forward
        · refine .inl ?_
          unfold coreK
          rw [hfe]
        · have hfw : p.forwarding = false := by
            rcases hs.2.1 with e | e
            · cases h1 : p.forwarding
              · rfl
              · rw [h1, e] at hfe; exact absurd rfl hfe
            · exact e
          have hf : p.forward = true := by
            cases h1 : p.forward
            · rw [hfw, h1] at hfe; exact absurd rfl hfe
            · rfl
          refine .inr ?_
          show phiM t p + phiS { p with forwarding := p.forward } + phiE p + phiT p < phiM t p + phiS p + phiE p + phiT p
          unfold phiS
          simp only [ho, hf, hfw, if_true, b2, Bool.not_true, Bool.not_false, Bool.false_eq_true, if_false]
          omega
  | false =>
    have hr0 : p.role = 0 := by rw [hr, hsel, ho]; rfl
    obtain ⟨hl, hf⟩ := d.off0 hr0
    unfold stateP
    rw [if_pos hl]
    refine ⟨⟨⟨d.onS, d.offS, d.sync, d.reroot, d.disputed, d.proposed, d.agree, d.hTc, d.hTcn, d.hAck, d.hRstp, d.hStp, d.sRstp, d.upd, d.role, d.off0, d.adm, fun e => absurd (show p.on = true from e) (by rw [ho]; decide)⟩, ⟨c.ready, c.resel, c.sel, c.offer, c.src⟩⟩, ?_⟩
    by_cases hz : p.learning = false ∧ p.forwarding = false
    · refine .inl ?_
      unfold coreK
      rw [hz.1, hz.2]
    · refine .inr ?_
      show phiM t p + phiS { p with learning := false, forwarding := false } + phiE p + phiT p < phiM t p + phiS p + phiE p + phiT p
      have e1 : phiS { p with learning := false, forwarding := false } = 0 := by unfold phiS; simp [ho, b2]
      have e2 : 0 < phiS p := by
        unfold phiS
        simp only [ho, Bool.false_eq_true, if_false]
        cases h1 : p.learning <;> cases h2 : p.forwarding <;> simp_all [b2]
      omega
theorem edge_dm {br : Int} {t : Tm} {p : Pt} (h : Dm br t p) : Dm br t (edgeP p) ∧ Dn t p (edgeP p) := by
  obtain ⟨d, c⟩ := h
  unfold edgeP
  split
  · rename_i he
    unfold edgeB at he
    simp only [Bool.and_eq_true, Bool.not_eq_true'] at he
    refine ⟨⟨⟨d.onS, d.offS, d.sync, d.reroot, d.disputed, d.proposed, d.agree, d.hTc, d.hTcn, d.hAck, d.hRstp, d.hStp, d.sRstp, d.upd, d.role, d.off0, fun _ => rfl, d.safe⟩, ⟨c.ready, c.resel, c.sel, c.offer, c.src⟩⟩, .inr ?_⟩
    show phiM t p + phiS p + phiE { p with oper := true } + phiT p < phiM t p + phiS p + phiE p + phiT p
    unfold phiE
    simp only [he.2.1, b2, Bool.not_true, Bool.not_false, Bool.false_eq_true, if_false, if_true]
    omega
  · exact ⟨⟨d, c⟩, .inl rfl⟩
theorem checks_dm {br : Int} {t : Tm} {p : Pt} (h : Dm br t p) : Dm br t (checksP p) := by
  obtain ⟨d, c⟩ := h
  exact ⟨⟨d.onS, d.offS, d.sync, d.reroot, d.disputed, d.proposed, d.agree, d.hTc, d.hTcn, d.hAck, d.hRstp, d.hStp, rfl, d.upd, d.role, d.off0, d.adm, d.safe⟩, ⟨c.ready, c.resel, c.sel, c.offer, c.src⟩⟩
theorem senses_dm {br : Int} {t : Tm} {p : Pt} (h : Dm br t p) : Dm br t (sensesP p) := by
  obtain ⟨d, c⟩ := h
  exact ⟨⟨d.onS, d.offS, d.sync, d.reroot, d.disputed, d.proposed, d.agree, d.hTc, d.hTcn, d.hAck, rfl, rfl, d.sRstp, d.upd, d.role, d.off0, d.adm, d.safe⟩, ⟨c.ready, c.resel, c.sel, c.offer, c.src⟩⟩
theorem tongue_dm {br : Int} {t : Tm} {p : Pt} (h : Dm br t p) : Dm br t (tongueP p) ∧ Dn t p (tongueP p) := by
  have hst := h.d.hStp
  have hsr := h.d.sRstp
  have hb := b2_le p.check
  have low : ∀ q : Pt, phiM t q = phiM t p → phiS q = phiS p → phiE q = phiE p → phiT q < phiT p → Dn t p q := fun q h1 h2 h3 h4 => .inr (by unfold phi; omega)
  unfold tongueP
  split
  · rename_i h0
    split
    · rename_i hc
      refine ⟨checks_dm h, low _ rfl rfl rfl ?_⟩
      have e1 : phiT (checksP p) = 0 := by unfold phiT checksP; simp [hc.1]
      have e2 : phiT p = 1 := by unfold phiT; simp [h0, hc.1, hc.2]
      omega
    · rename_i hc
      split
      · rename_i hm
        have hon : p.on = true := by
          cases ho : p.on with
          | true => rfl
          | false => exact absurd ⟨ho, by omega⟩ hc
        refine ⟨senses_dm h, low _ rfl rfl rfl ?_⟩
        have e1 : phiT (sensesP p) = b2 p.check := by unfold phiT sensesP; simp [hon]
        have e2 : phiT p = 2 := by unfold phiT; simp [h0, hon, hm]
        omega
      · exact ⟨h, .inl rfl⟩
  · split
    · rename_i h0 h1
      split
      · refine ⟨senses_dm h, low _ rfl rfl rfl ?_⟩
        have e1 : phiT (sensesP p) ≤ 2 := by
          unfold phiT sensesP
          simp only
          split
          · omega
          · split
            · omega
            · split
              · split
                · omega
                · omega
              · omega
        have e2 : phiT p = 3 := by unfold phiT; simp [h1]
        omega
      · exact ⟨h, .inl rfl⟩
    · split
      · rename_i h0 h1 h2
        split
        · rename_i hc
          refine ⟨checks_dm h, low _ rfl rfl rfl ?_⟩
          cases ho : p.on with
          | true =>
            have hck : p.check = true := by
              rcases hc with e | e | e
              · rw [ho] at e; cases e
              · exact e
              · rw [hsr] at e; exact absurd e.1 (by decide)
            have e1 : phiT (checksP p) = 0 := by unfold phiT checksP; simp [ho]
            have e2 : phiT p = 1 := by unfold phiT; simp [h2, ho, hck, b2]
            omega
          | false =>
            have e1 : phiT (checksP p) = 0 := by unfold phiT checksP; simp [ho]
            have e2 : phiT p = 2 := by unfold phiT; simp [h2, ho]
            omega
        · split
          · rename_i hc
            rw [hst] at hc
            exact absurd hc.2 (by decide)
          · exact ⟨h, .inl rfl⟩
      · exact ⟨h, .inl rfl⟩
/-! ### All hangs on the core alone -/
theorem ite_core {c : Prop} [Decidable c] {a b a' b' : Option Mv} (h1 : a.map (fun m => coreK m.own) = a'.map (fun m => coreK m.own)) (h2 : b.map (fun m => coreK m.own) = b'.map (fun m => coreK m.own)) :
    (if c then a else b).map (fun m => coreK m.own) = (if c then a' else b').map (fun m => coreK m.own) := by
  split
  · exact h1
  · exact h2
theorem move_core (t : Tm) (so ro : Bool) (p : Pt) : (moveF t so ro (coreK p)).map (fun m => coreK m.own) = (moveF t so ro p).map (fun m => coreK m.own) := by
  refine ite_core rfl (ite_core ?_ (ite_core ?_ (ite_core ?_ (ite_core ?_ rfl))))
  · exact ite_core rfl (ite_core rfl (ite_core rfl rfl))
  · exact ite_core rfl (ite_core rfl (ite_core rfl (ite_core rfl rfl)))
  · exact ite_core rfl (ite_core rfl (ite_core rfl (ite_core rfl (ite_core rfl (ite_core rfl (ite_core rfl (ite_core rfl rfl)))))))
  · exact ite_core rfl (ite_core rfl (ite_core rfl (ite_core rfl (ite_core rfl (ite_core rfl rfl)))))
theorem own_core (t : Tm) (p : Pt) : coreK (ownM t (coreK p)) = coreK (ownM t p) := by
  have h := move_core t true true p
  unfold ownM
  cases h1 : moveF t true true (coreK p) with
  | none =>
    rw [h1] at h
    cases h2 : moveF t true true p with
    | none => rfl
    | some m => rw [h2] at h; cases h
  | some m =>
    rw [h1] at h
    cases h2 : moveF t true true p with
    | none => rw [h2] at h; cases h
    | some m' =>
      rw [h2] at h
      exact Option.some.inj h
theorem state_core (p : Pt) : coreK (stateP (coreK p)) = coreK (stateP p) := by
  have key : ∀ (c : Prop) [Decidable c] (a b a' b' : Pt), coreK a = coreK a' → coreK b = coreK b' → coreK (if c then a else b) = coreK (if c then a' else b') := by
    intro c _ a b a' b' h1 h2
    split
    · exact h1
    · exact h2
  exact key _ _ _ _ _ rfl (key _ _ _ _ _ rfl rfl)
theorem edge_core (p : Pt) : coreK (edgeP (coreK p)) = coreK (edgeP p) := by
  have key : ∀ (c : Prop) [Decidable c] (a b a' b' : Pt), coreK a = coreK a' → coreK b = coreK b' → coreK (if c then a else b) = coreK (if c then a' else b') := by
    intro c _ a b a' b' h1 h2
    split
    · exact h1
    · exact h2
  exact key _ _ _ _ _ rfl rfl
theorem tongue_core (p : Pt) : coreK (tongueP (coreK p)) = coreK (tongueP p) := by
  have key : ∀ (c : Prop) [Decidable c] (a b a' b' : Pt), coreK a = coreK a' → coreK b = coreK b' → coreK (if c then a else b) = coreK (if c then a' else b') := by
    intro c _ a b a' b' h1 h2
    split
    · exact h1
    · exact h2
  exact key _ _ _ _ _ (key _ _ _ _ _ rfl (key _ _ _ _ _ rfl rfl)) (key _ _ _ _ _ (key _ _ _ _ _ rfl rfl) (key _ _ _ _ _ (key _ _ _ _ _ rfl (key _ _ _ _ _ rfl rfl)) rfl))
/-- A round of one port, but for what layer 13 touches. -/
def ownP (t : Tm) (p : Pt) : Pt := stateP (ownM t p)
def gP (t : Tm) (p : Pt) : Pt := offP (endP (ownP t p))
theorem core_of {f : Pt → Pt} (hf : ∀ p, coreK (f (coreK p)) = coreK (f p)) {p q : Pt} (h : coreK p = coreK q) : coreK (f p) = coreK (f q) := by
  rw [← hf p, h, hf q]
theorem own2_core (t : Tm) (p : Pt) : coreK (ownP t (coreK p)) = coreK (ownP t p) := core_of state_core (own_core t p)
theorem end_core (p : Pt) : coreK (endP (coreK p)) = coreK (endP p) := core_of edge_core (tongue_core p)
theorem gP_core (t : Tm) (p : Pt) : coreK (gP t (coreK p)) = coreK (gP t p) :=
  show coreK (endP (ownP t (coreK p))) = coreK (endP (ownP t p)) from core_of end_core (own2_core t p)
theorem own2_dm {br : Int} {t : Tm} {p : Pt} (h : Dm br t p) : Dm br t (ownP t p) ∧ Dn t p (ownP t p) := by
  obtain ⟨h1, h2, h3⟩ := own_dm h
  obtain ⟨h4, h5⟩ := state_dm h1 h2
  exact ⟨h4, h3.trans h5⟩
theorem end_dm {br : Int} {t : Tm} {p : Pt} (h : Dm br t p) : Dm br t (endP p) ∧ Dn t p (endP p) := by
  obtain ⟨h1, h2⟩ := tongue_dm h
  obtain ⟨h3, h4⟩ := edge_dm h1
  exact ⟨h3, h2.trans h4⟩
theorem off_dm {br : Int} {t : Tm} {p : Pt} (h : Dm br t p) : Dm br t (offP p) := by
  obtain ⟨d, c⟩ := h
  exact ⟨⟨d.onS, d.offS, d.sync, d.reroot, d.disputed, d.proposed, d.agree, d.hTc, d.hTcn, d.hAck, d.hRstp, d.hStp, d.sRstp, d.upd, d.role, d.off0, d.adm, d.safe⟩, ⟨c.ready, c.resel, c.sel, c.offer, c.src⟩⟩
theorem gP_dm {br : Int} {t : Tm} {p : Pt} (h : Dm br t p) : Dm br t (gP t p) ∧ Dn t p (gP t p) := by
  obtain ⟨h1, h2⟩ := own2_dm h
  obtain ⟨h3, h4⟩ := end_dm h1
  exact ⟨off_dm h3, h2.trans h4⟩
/-- It rests behind so many rounds. -/
theorem gP_rests {br : Int} {t : Tm} : ∀ (n : Nat) (p : Pt), Dm br t p → phi t p ≤ n → coreK (gP t (Nat.rec p (fun _ x => gP t x) n)) = coreK (Nat.rec p (fun _ x => gP t x) n : Pt)
  | 0, p, h, hn => by
    rcases (gP_dm h).2 with e | e
    · exact e
    · omega
  | n + 1, p, h, hn => by
    have hsh : ∀ k, (Nat.rec p (fun _ x => gP t x) (k + 1) : Pt) = Nat.rec (gP t p) (fun _ x => gP t x) k := by
      intro k
      induction k with
      | zero => rfl
      | succ k ih => show gP t (Nat.rec p (fun _ x => gP t x) (k + 1)) = gP t (Nat.rec (gP t p) (fun _ x => gP t x) k); rw [ih]
    rw [hsh n]
    rcases (gP_dm h).2 with e | e
    · have all : ∀ k, coreK (Nat.rec (gP t p) (fun _ x => gP t x) k : Pt) = coreK p := by
        intro k
        induction k with
        | zero => exact e
        | succ k ih => exact (core_of (gP_core t) ih).trans e
      exact (core_of (gP_core t) (all n)).trans (e.trans (all n).symm)
    · exact gP_rests n (gP t p) (gP_dm h).1 (by omega)
/-! ### A round of all -/
theorem spread_alone {m : Mv} (h : m.syncAll = false ∧ m.rerootAll = false) (k i : Nat) (q : Pt) : spreadAt m k i q = if i = k then m.own else q := by
  unfold spreadAt
  rw [h.1, h.2]
  split
  · rw [Bool.or_false]
  · rw [Bool.or_false, Bool.or_false]
def DmL (br : Int) (t : Tm) (l : List Pt) : Prop := ∀ (i : Nat) (p : Pt), l[i]? = some p → Dm br t p
theorem passN_alone {br : Int} {t : Tm} {l : List Pt} (hb : rightBr t = true) (h : DmL br t l) : ∀ k, passN t l k = l.mapIdx (fun i p => if i < k then ownP t p else p)
  | 0 => by
    show l = _
    apply List.ext_getElem?
    intro i
    simp
  | k + 1 => by
    show (moveP t (passN t l k) k).1.modify k stateP = _
    have ih := passN_alone hb h k
    obtain ⟨L, hL⟩ : ∃ L, passN t l k = L := ⟨_, rfl⟩
    rw [hL] at ih ⊢
    have hat : ∀ i : Nat, L[i]? = (l[i]?).map (fun p => if i < k then ownP t p else p) := fun i => by rw [ih, List.getElem?_mapIdx]
    have key : ∀ i : Nat, (moveP t L k).1[i]? = if i = k then (l[i]?).map (ownM t) else L[i]? := by
      intro i
      unfold moveP moveAtP
      rw [if_pos hb]
      cases hp : L[k]? with
      | none =>
        by_cases e : i = k
        · rw [if_pos e, e]
          have := hat k
          rw [hp] at this
          cases hl : l[k]? with
          | none => exact hp
          | some p => rw [hl] at this; cases this
        · rw [if_neg e]
      | some p =>
        have hpl : l[k]? = some p := by
          have := hat k
          rw [hp] at this
          cases hl : l[k]? with
          | none => rw [hl] at this; cases this
          | some p' =>
            rw [hl] at this
            simp only [Nat.lt_irrefl, if_false, Option.map_some, Option.some.injEq] at this
            rw [this]
        have hd := h k p hpl
        dsimp only
        obtain ⟨h1, h2⟩ := move_alone hd (othersB syncedO L k) (othersB rerootedO L k)
        cases hm : moveF t (othersB syncedO L k) (othersB rerootedO L k) p with
        | none =>
          by_cases e : i = k
          · subst e
            rw [if_pos rfl, hpl]
            show L[i]? = some (ownM t p)
            unfold ownM
            rw [← h1, hm, hp]
          · rw [if_neg e]
            rfl
        | some m =>
          show (L.mapIdx (spreadAt m k))[i]? = _
          rw [List.getElem?_mapIdx]
          by_cases e : i = k
          · subst e
            rw [if_pos rfl, hpl, hp, Option.map_some, Option.map_some, spread_alone (h2 m hm), if_pos rfl]
            unfold ownM
            rw [← h1, hm]
          · rw [if_neg e]
            cases hq : L[i]? with
            | none => rfl
            | some q => rw [Option.map_some, spread_alone (h2 m hm), if_neg e]
    apply List.ext_getElem?
    intro i
    rw [List.getElem?_modify, key i, List.getElem?_mapIdx]
    by_cases e : i = k
    · subst e
      cases hl : l[i]? with
      | none => simp
      | some p => simp [ownP]
    · have e' : ¬ k = i := fun x => e x.symm
      rw [if_neg e, hat i]
      cases hl : l[i]? with
      | none => simp
      | some p =>
        have : (i < k) ↔ (i < k + 1) := by omega
        simp [e', this]
theorem pass_alone {br : Int} {t : Tm} {l : List Pt} (hb : rightBr t = true) (h : DmL br t l) : (passP t l).1 = l.map (ownP t) := by
  show passN t l l.length = _
  rw [passN_alone hb h]
  apply List.ext_getElem?
  intro i
  rw [List.getElem?_mapIdx, List.getElem?_map]
  cases hl : l[i]? with
  | none => rfl
  | some p => rw [Option.map_some, Option.map_some, if_pos (List.getElem?_eq_some_iff.1 hl).1]
/-- What layer 13 does leaves the core. -/
theorem count_core (t : Tm) (p : Pt) : coreK (countP t p) = coreK p := by
  unfold countP
  repeat' split
  all_goals rfl
theorem heed_core (p : Pt) : coreK (heedP13 p) = coreK p := by unfold heedP13; split <;> rfl
theorem stepF_core {t : Tm} {p X : Pt} {T : Bool} (h : stepF t p = some (X, T)) : coreK X = coreK p := by
  have c := count_core t p
  unfold stepF at h
  split at h
  · cases h; rfl
  split at h
  · cases h; exact c
  split at h
  · cases h; rfl
  split at h
  · cases h; rfl
  split at h
  · cases h; rfl
  split at h
  · cases h
    rw [heed_core]
    split
    · exact c
    · rfl
  split at h
  · cases h; exact c
  split at h
  · cases h; rfl
  · cases h
end Im
end Go.Proofs.YtldobcfejldbiaaGreatDoor

namespace Go.Proofs.YtldobcfejldbiaaGreatDoor
set_option linter.unusedVariables false
set_option linter.unusedSimpArgs false
namespace Im
open Vm Rm Bm

/-! ### What layer 13 leaves of such a port -/
theorem deaf_of_core {br : Int} {t : Tm} {p q : Pt} (d : Deaf br t p) (e : coreK q = coreK p) (h1 : q.heardTc = false) (h2 : q.heardTcn = false) (h3 : q.heardAck = false) : Deaf br t q := by
  have f : ∀ {α : Type} (F : Pt → α), F (coreK q) = F (coreK p) := fun F => congrArg F e
  have e1 : q.on = p.on := f Pt.on
  have e2 : q.source = p.source := f Pt.source
  have e3 : q.sync = p.sync := f Pt.sync
  have e4 : q.reroot = p.reroot := f Pt.reroot
  have e5 : q.disputed = p.disputed := f Pt.disputed
  have e6 : q.proposed = p.proposed := f Pt.proposed
  have e7 : q.agree = p.agree := f Pt.agree
  have e8 : q.heardRstp = p.heardRstp := f Pt.heardRstp
  have e9 : q.heardStp = p.heardStp := f Pt.heardStp
  have e10 : q.sendRstp = p.sendRstp := f Pt.sendRstp
  have e11 : q.update = p.update := f Pt.update
  have e12 : q.role = p.role := f Pt.role
  have e13 : q.learn = p.learn := f Pt.learn
  have e14 : q.forward = p.forward := f Pt.forward
  have e15 : q.admin = p.admin := f Pt.admin
  have e16 : q.oper = p.oper := f Pt.oper
  have e17 : safeB q = safeB p := f safeB
  refine ⟨?_, ?_, ?_, ?_, ?_, ?_, ?_, h1, h2, h3, ?_, ?_, ?_, ?_, ?_, ?_, ?_, ?_⟩
  · rw [e1, e2]; exact d.onS
  · rw [e1, e2]; exact d.offS
  · rw [e3]; exact d.sync
  · rw [e4]; exact d.reroot
  · rw [e5]; exact d.disputed
  · rw [e6]; exact d.proposed
  · rw [e7]; exact d.agree
  · rw [e8]; exact d.hRstp
  · rw [e9]; exact d.hStp
  · rw [e10]; exact d.sRstp
  · rw [e11]; exact d.upd
  · rw [e12]; exact d.role
  · rw [e12, e13, e14]; exact d.off0
  · rw [e15, e16]; exact d.adm
  · rw [e1, e17]; exact d.safe
theorem chosen_of_core {br : Int} {t : Tm} {p q : Pt} (c : Chosen br t p) (e : coreK q = coreK p) : Chosen br t q := by
  have f : ∀ {α : Type} (F : Pt → α), F (coreK q) = F (coreK p) := fun F => congrArg F e
  have e1 : q.on = p.on := f Pt.on
  have e2 : q.source = p.source := f Pt.source
  have e3 : q.ready = p.ready := f Pt.ready
  have e4 : q.reselect = p.reselect := f Pt.reselect
  have e5 : q.selected = p.selected := f Pt.selected
  have e6 : q.offer = p.offer := f Pt.offer
  have e7 : q.id = p.id := f Pt.id
  refine ⟨?_, ?_, ?_, ?_, ?_⟩
  · rw [e3]; exact c.ready
  · rw [e4]; exact c.resel
  · rw [e5, e1]; exact c.sel
  · rw [e6, c.offer]; unfold ownO; rw [e7]
  · rw [e1, e2]; exact c.src
theorem dm_of_core {br : Int} {t : Tm} {p q : Pt} (h : Dm br t p) (e : coreK q = coreK p) (h1 : q.heardTc = false) (h2 : q.heardTcn = false) (h3 : q.heardAck = false) : Dm br t q :=
  ⟨deaf_of_core h.d e h1 h2 h3, chosen_of_core h.c e⟩
theorem count_heard (t : Tm) (p : Pt) : (countP t p).heardTc = p.heardTc ∧ (countP t p).heardTcn = p.heardTcn ∧ (countP t p).heardAck = p.heardAck := by
  unfold countP
  repeat' split
  all_goals exact ⟨rfl, rfl, rfl⟩
theorem stepF_quiet {t : Tm} {p X : Pt} {T : Bool} (h : stepF t p = some (X, T)) (h1 : p.heardTc = false) (h2 : p.heardTcn = false) (h3 : p.heardAck = false) : X.heardTc = false ∧ X.heardTcn = false ∧ X.heardAck = false := by
  have c := count_heard t p
  rw [h1, h2, h3] at c
  unfold stepF at h
  split at h
  · cases h; exact ⟨rfl, rfl, rfl⟩
  split at h
  · cases h; exact c
  split at h
  · cases h; exact ⟨h1, h2, h3⟩
  split at h
  · cases h; exact ⟨rfl, rfl, rfl⟩
  split at h
  · cases h; exact ⟨rfl, rfl, rfl⟩
  split at h
  · rename_i hc
    rw [h1, h2] at hc
    simp at hc
  split at h
  · cases h; exact c
  split at h
  · cases h; exact ⟨h1, h2, rfl⟩
  · cases h
theorem step_dm {br : Int} {t : Tm} {l : List Pt} (h : DmL br t l) (k : Nat) : DmL br t (stepP t l k).1 ∧ (stepP t l k).1.map coreK = l.map coreK := by
  by_cases hb : rightBr t = true
  · cases hp : l[k]? with
    | none =>
      rw [stepP_out (by have := List.getElem?_eq_none_iff.1 hp; omega)]
      exact ⟨h, rfl⟩
    | some p =>
      cases hs : stepF t p with
      | none => rw [stepP_no hp hs]; exact ⟨h, rfl⟩
      | some m =>
        obtain ⟨X, T⟩ := m
        rw [stepP_yes hb hp hs]
        have hd := h k p hp
        have hx := stepF_core hs
        obtain ⟨q1, q2, q3⟩ := stepF_quiet hs hd.d.hTc hd.d.hTcn hd.d.hAck
        have key : ∀ (i : Nat) (q : Pt), l[i]? = some q → Dm br t (tellAt X T k i q) ∧ coreK (tellAt X T k i q) = coreK q := by
          intro i q hq
          unfold tellAt
          by_cases e : i = k
          · rw [if_pos e]
            rw [e, hp] at hq
            cases hq
            exact ⟨dm_of_core hd hx q1 q2 q3, hx⟩
          · rw [if_neg e]
            have hq' := h i q hq
            exact ⟨dm_of_core hq' rfl hq'.d.hTc hq'.d.hTcn hq'.d.hAck, rfl⟩
        refine ⟨fun i r hr => ?_, ?_⟩
        · simp only [List.getElem?_mapIdx, Option.map_eq_some_iff] at hr
          obtain ⟨q, hq, rfl⟩ := hr
          exact (key i q hq).1
        · apply List.ext_getElem?
          intro i
          simp only [List.getElem?_map, List.getElem?_mapIdx]
          cases hq : l[i]? with
          | none => rfl
          | some q => exact congrArg some (key i q hq).2
  · rw [stepP_wrong (by simpa using hb)]; exact ⟨h, rfl⟩
theorem cpassN_dm {br : Int} {t : Tm} {l : List Pt} (h : DmL br t l) : ∀ k, DmL br t (cpassN t l k) ∧ (cpassN t l k).map coreK = l.map coreK
  | 0 => ⟨h, rfl⟩
  | k + 1 => by
    obtain ⟨h1, h2⟩ := cpassN_dm h k
    obtain ⟨h3, h4⟩ := step_dm h1 k
    exact ⟨h3, h4.trans h2⟩
theorem dm_map {br : Int} {t : Tm} {l : List Pt} (h : DmL br t l) {f : Pt → Pt} (hf : ∀ p, Dm br t p → Dm br t (f p)) : DmL br t (l.map f) := by
  intro i q hq
  rw [List.getElem?_map, Option.map_eq_some_iff] at hq
  obtain ⟨p, hp, rfl⟩ := hq
  exact hf p (h i p hp)

/-! ### A round of all -/
theorem round_dm {br : Int} {t : Tm} {l : List Pt} (hb : rightBr t = true) (h : DmL br t (settledP br t l)) : DmL br t (roundP br t l) ∧ (roundP br t l).map coreK = (settledP br t l).map (fun p => coreK (gP t p)) := by
  unfold roundP chainP
  rw [show (chooseP br t (l.map ageP)).1.map settleP = settledP br t l from rfl]
  generalize settledP br t l = S at h ⊢
  rw [pass_alone hb h]
  have h1 : DmL br t (S.map (ownP t)) := dm_map h (fun p hp => (own2_dm hp).1)
  obtain ⟨h2, h3⟩ := cpassN_dm h1 (S.map (ownP t)).length
  rw [show (cpassP t (S.map (ownP t))).1 = cpassN t (S.map (ownP t)) (S.map (ownP t)).length from rfl]
  generalize cpassN t (S.map (ownP t)) (S.map (ownP t)).length = C at h2 h3 ⊢
  refine ⟨dm_map (dm_map h2 (fun p hp => (end_dm hp).1)) (fun p hp => off_dm hp), ?_⟩
  apply List.ext_getElem?
  intro i
  have hc := congrArg (fun m => m[i]?) h3
  simp only [List.getElem?_map] at hc ⊢
  cases hC : C[i]? with
  | none =>
    rw [hC] at hc
    cases hS : S[i]? with
    | none => rfl
    | some p => rw [hS] at hc; cases hc
  | some c =>
    rw [hC] at hc
    cases hS : S[i]? with
    | none => rw [hS] at hc; cases hc
    | some p =>
      rw [hS] at hc
      simp only [Option.map_some, Option.some.injEq] at hc ⊢
      exact (show coreK (offP (endP c)) = coreK (endP (ownP t p)) from core_of end_core hc)
theorem dm_age {br : Int} {t : Tm} {p : Pt} (h : Dm br t p) : ageP p = p := by
  unfold ageP
  rw [if_neg (fun c => by
    cases ho : p.on with
    | true => have := h.c.src ho; omega
    | false => have := h.d.offS ho; omega)]
theorem dm_settle {br : Int} {t : Tm} {p : Pt} (h : Dm br t p) : settleP p = p := by
  unfold settleP
  rw [if_neg (fun c => by rw [h.d.upd] at c; cases c.2)]
theorem map_same {l : List Pt} {f : Pt → Pt} (h : ∀ (i : Nat) (p : Pt), l[i]? = some p → f p = p) : l.map f = l := by
  apply List.ext_getElem?
  intro i
  rw [List.getElem?_map]
  cases hp : l[i]? with
  | none => rfl
  | some p => exact congrArg some (h i p hp)
/-- Where all have their roles nothing is chosen anew. -/
theorem settled_same {br : Int} {t : Tm} {l : List Pt} (h : DmL br t l) : settledP br t l = l := by
  unfold settledP
  rw [map_same (fun i p hp => dm_age (h i p hp))]
  have hm : mayB br t l = false := by
    unfold mayB
    have : l.any Pt.reselect = false := by
      rw [List.any_eq_false]
      intro p hp
      obtain ⟨i, hi⟩ := List.getElem?_of_mem hp
      rw [(h i p hi).c.resel]
      decide
    rw [this]
    rfl
  rw [choose_not hm]
  exact map_same (fun i p hp => dm_settle (h i p hp))

/-! ### It rests behind so many rounds -/
/-- It rests behind k rounds of its own. -/
def Rk (t : Tm) (k : Nat) (p : Pt) : Prop := coreK (gP t (Nat.rec p (fun _ x => gP t x) k)) = coreK (Nat.rec p (fun _ x => gP t x) k : Pt)
theorem it_core {t : Tm} {p q : Pt} (e : coreK p = coreK q) : ∀ k, coreK (Nat.rec p (fun _ x => gP t x) k : Pt) = coreK (Nat.rec q (fun _ x => gP t x) k : Pt)
  | 0 => e
  | k + 1 => core_of (gP_core t) (it_core e k)
theorem it_shift (t : Tm) (p : Pt) : ∀ k, (Nat.rec p (fun _ x => gP t x) (k + 1) : Pt) = Nat.rec (gP t p) (fun _ x => gP t x) k
  | 0 => rfl
  | k + 1 => by show gP t (Nat.rec p (fun _ x => gP t x) (k + 1)) = gP t (Nat.rec (gP t p) (fun _ x => gP t x) k); rw [it_shift t p k]
theorem rk_core {t : Tm} {k : Nat} {p q : Pt} (e : coreK q = coreK p) (h : Rk t k p) : Rk t k q := by
  have h1 := it_core (t := t) e k
  exact (core_of (gP_core t) h1).trans (h.trans h1.symm)
theorem rk_next {t : Tm} {k : Nat} {p q : Pt} (e : coreK q = coreK (gP t p)) (h : Rk t (k + 1) p) : Rk t k q := by
  refine rk_core e ?_
  unfold Rk at h ⊢
  rw [it_shift] at h
  exact h
theorem rk_up {t : Tm} {p : Pt} (h : Rk t 0 p) : Rk t 1 p := core_of (gP_core t) h
def NeedL (br : Int) (t : Tm) (k : Nat) (l : List Pt) : Prop := DmL br t l ∧ ∀ (i : Nat) (p : Pt), l[i]? = some p → Rk t k p
theorem need_round {br : Int} {t : Tm} {l : List Pt} (hb : rightBr t = true) {k : Nat} (h : NeedL br t (k + 1) l) : NeedL br t k (roundP br t l) := by
  obtain ⟨h1, h2⟩ := h
  have hs := settled_same h1
  obtain ⟨h3, h4⟩ := round_dm (l := l) hb (by rw [hs]; exact h1)
  rw [hs] at h4
  refine ⟨h3, fun i q hq => ?_⟩
  have e := congrArg (fun m => m[i]?) h4
  simp only [List.getElem?_map, hq, Option.map_some] at e
  cases hp : l[i]? with
  | none => rw [hp] at e; cases e
  | some p =>
    rw [hp] at e
    exact rk_next (Option.some.inj e) (h2 i p hp)
theorem need_up {br : Int} {t : Tm} {l : List Pt} (h : NeedL br t 0 l) : NeedL br t 1 l := ⟨h.1, fun i p hp => rk_up (h.2 i p hp)⟩
theorem need_fix {br : Int} {t : Tm} {l : List Pt} (hb : rightBr t = true) (h : DmL br t l) (e : roundP br t l = l) : NeedL br t 0 l := by
  have hs := settled_same h
  obtain ⟨h3, h4⟩ := round_dm (l := l) hb (by rw [hs]; exact h)
  rw [hs, e] at h4
  refine ⟨h, fun i p hp => ?_⟩
  have e' := congrArg (fun m => m[i]?) h4
  simp only [List.getElem?_map, hp, Option.map_some, Option.some.injEq] at e'
  exact e'.symm
theorem run_need {br : Int} {t : Tm} (hb : rightBr t = true) : ∀ (n k : Nat) (x : Rs), NeedL br t k x.l → k ≤ n → NeedL br t 0 (runN br t n x).l
  | 0, k, x, h, hk => by
    obtain rfl : k = 0 := by omega
    exact h
  | n + 1, k, x, h, hk => by
    unfold runN
    split
    · rename_i e
      exact need_fix hb h.1 e
    · cases k with
      | zero => exact run_need hb n 0 _ (need_round hb (need_up h)) (Nat.zero_le _)
      | succ k => exact run_need hb n k _ (need_round hb h) (by omega)
/-- Behind a run all rests. -/
theorem run_rests {br : Int} {t : Tm} {x : Rs} (hb : rightBr t = true) (h : DmL br t (settledP br t x.l)) : NeedL br t 0 (runP br t x).l := by
  obtain ⟨h1, h2⟩ := round_dm hb h
  show NeedL br t 0 (runN br t (299 + 1) x).l
  unfold runN
  split
  · rename_i e
    show NeedL br t 0 x.l
    exact need_fix hb (e ▸ h1) e
  · refine run_need hb 299 30 _ ⟨h1, fun i p hp => ?_⟩ (by decide)
    exact gP_rests 30 p (h1 i p hp) (phi_le t p)

/-! ### What rests is as it is to be -/
theorem dn_le {t : Tm} {p q : Pt} (h : Dn t p q) : phi t q ≤ phi t p := by
  rcases h with e | e
  · rw [← phi_core t q, e, phi_core]
    exact Nat.le_refl _
  · omega
theorem dn_same {t : Tm} {p q : Pt} (h : Dn t p q) (e : phi t q = phi t p) : coreK q = coreK p := by
  rcases h with h | h
  · exact h
  · omega
theorem des_moves {br : Int} {t : Tm} {p : Pt} {m : Mv} (d : Deaf br t p) (h : desF t p = some m) : ¬ coreK m.own = coreK p := by
  intro e
  have f : ∀ {α : Type} (F : Pt → α), F (coreK m.own) = F (coreK p) := fun F => congrArg F e
  unfold desF at h
  split at h
  · rename_i hc
    simp only [Bool.and_eq_true, Bool.not_eq_true'] at hc
    cases h
    have : true = p.proposing := f Pt.proposing
    rw [hc.2.2.1] at this
    cases this
  split at h
  · rename_i hc
    have hsy : p.synced = false := by
      cases hx : p.synced with
      | false => rfl
      | true => rw [hx, d.sync] at hc; simp at hc
    cases h
    have : true = p.synced := f Pt.synced
    rw [hsy] at this
    cases this
  split at h
  · rename_i hc
    rw [d.reroot] at hc
    simp at hc
  split at h
  · rename_i hc
    unfold desStops at hc
    rw [d.reroot, d.sync, d.disputed] at hc
    simp at hc
  split at h
  · rename_i hc
    simp only [Bool.and_eq_true, Bool.not_eq_true'] at hc
    cases h
    have : true = p.learn := f Pt.learn
    rw [hc.2] at this
    cases this
  split at h
  · rename_i hc
    simp only [Bool.and_eq_true, Bool.not_eq_true'] at hc
    cases h
    have : true = p.forward := f Pt.forward
    rw [hc.2] at this
    cases this
  · cases h
theorem des_must {br : Int} {t : Tm} {p : Pt} (d : Deaf br t p) (ho : p.oper = true) (h : desF t p = none) : p.learn = true ∧ p.forward = true := by
  have hm : desMay p = true := by
    unfold desMay
    rw [ho, d.reroot, d.sync, d.disputed]
    simp
  unfold desF at h
  rw [hm] at h
  simp only [Bool.true_and] at h
  repeat' split at h
  all_goals first | (cases h; done) | skip
  rename_i h5 h6
  exact ⟨by simpa using h5, by simpa using h6⟩
structure AloneP (br : Int) (p : Pt) : Prop where
  on : p.on = true → p.role = 2 ∧ p.offer = ownO br p ∧ p.source = 2
  off : p.on = false → p.learning = false ∧ p.forwarding = false ∧ p.role = 0
  edge : p.on = true → p.admin = true → p.forwarding = true
theorem rest_alone {br : Int} {t : Tm} {p : Pt} (h : Dm br t p) (hr : Rk t 0 p) : AloneP br p := by
  have hr' : coreK (gP t p) = coreK p := hr
  obtain ⟨o1, o2, o3⟩ := own_dm h
  obtain ⟨s1, s2⟩ := state_dm o1 o2
  obtain ⟨e1, e2⟩ := end_dm s1
  have ep : phi t (gP t p) = phi t p := by rw [← phi_core t (gP t p), hr', phi_core]
  have eo : phi t (offP (endP (stateP (ownM t p)))) = phi t (endP (stateP (ownM t p))) := rfl
  have a1 := dn_le o3
  have a2 := dn_le s2
  have a3 := dn_le e2
  have eg : phi t (gP t p) = phi t (endP (stateP (ownM t p))) := eo
  have c1 : coreK (ownM t p) = coreK p := dn_same o3 (by omega)
  have c2 : coreK (stateP (ownM t p)) = coreK (ownM t p) := dn_same s2 (by omega)
  have f1 : ∀ {α : Type} (F : Pt → α), F (coreK (ownM t p)) = F (coreK p) := fun F => congrArg F c1
  have r1 : (ownM t p).role = p.role := f1 Pt.role
  have r2 : (ownM t p).selected = p.selected := f1 Pt.selected
  have hrs : p.role = p.selected := by rw [← r1, ← r2]; exact o2
  have hsel := h.c.sel
  have c3 : coreK (stateP p) = coreK p := by
    rw [core_of state_core c1.symm, c2, c1]
  have f3 : ∀ {α : Type} (F : Pt → α), F (coreK (stateP p)) = F (coreK p) := fun F => congrArg F c3
  refine ⟨fun ho => ⟨by rw [hrs, hsel, ho]; rfl, h.c.offer, h.c.src ho⟩, fun ho => ?_, fun ho ha => ?_⟩
  · have h0 : p.role = 0 := by rw [hrs, hsel, ho]; rfl
    obtain ⟨hl, hf⟩ := h.d.off0 h0
    have g1 : (stateP p).learning = p.learning := f3 Pt.learning
    have g2 : (stateP p).forwarding = p.forwarding := f3 Pt.forwarding
    unfold stateP at g1 g2
    rw [if_pos hl] at g1 g2
    exact ⟨g1.symm, g2.symm, h0⟩
  · have h2 : p.role = 2 := by rw [hrs, hsel, ho]; rfl
    have hn : desF t p = none := by
      cases hd : desF t p with
      | none => rfl
      | some m =>
        exfalso
        refine des_moves h.d hd ?_
        have e := move_alone_is h true true
        rw [if_pos hrs.symm, if_neg (by omega), hd] at e
        have e' : ownM t p = m.own := by unfold ownM; rw [e]
        rw [← e']
        exact c1
    obtain ⟨hl, hf⟩ := des_must h.d (h.d.adm ha) hn
    have g1 : (stateP p).learning = p.learning := f3 Pt.learning
    have g2 : (stateP p).forwarding = p.forwarding := f3 Pt.forwarding
    unfold stateP at g1 g2
    rw [if_neg (by rw [hl]; decide)] at g1 g2
    by_cases hlg : p.learning = false
    · rw [if_pos hlg] at g1
      rw [hlg] at g1
      cases g1
    · rw [if_neg hlg] at g2
      exact g2.symm.trans hf
end Im
end Go.Proofs.YtldobcfejldbiaaGreatDoor

namespace Go.Proofs.YtldobcfejldbiaaGreatDoor
set_option linter.unusedVariables false
set_option linter.unusedSimpArgs false
namespace Im
open Vm Rm Bm

/-! ### Ids and costs stay -/
def suK (p : Pt) : Int × Int := (p.id, p.cost)
def SuOk (S : List Su) (l : List Pt) : Prop := l.map suK = S.map (fun s => (s.id, s.cost))
theorem settled_su (br : Int) (t : Tm) (l : List Pt) : (settledP br t l).map suK = l.map suK := by
  unfold settledP
  rw [List.map_map, show suK ∘ settleP = suK from funext fun p => by show suK (settleP p) = _; unfold settleP; split <;> rfl]
  have ha : ∀ p, suK (ageP p) = suK p := fun p => by unfold ageP; split <;> rfl
  cases hm : mayB br t (l.map ageP) with
  | false => rw [choose_not hm, List.map_map, show suK ∘ ageP = suK from funext ha]
  | true =>
    rw [choose_may hm]
    apply List.ext_getElem?
    intro i
    simp only [List.getElem?_map, List.getElem?_mapIdx]
    cases l[i]? with
    | none => rfl
    | some p => exact congrArg some (ha p)
theorem round_su (br : Int) (t : Tm) (l : List Pt) : (roundP br t l).map suK = l.map suK := by
  have e := congrArg (List.map suK) (round_rest br t l)
  rw [List.map_map, List.map_map, show suK ∘ restK = suK from rfl] at e
  exact e.trans (settled_su br t l)
theorem run_su (br : Int) (t : Tm) (x : Rs) : (runP br t x).l.map suK = x.l.map suK :=
  run_keeps (P := fun l => l.map suK = x.l.map suK) (fun l h => (round_su br t l).trans h) 300 x rfl

/-! ### Roles are chosen where nothing was heard -/
theorem deaf_src {br : Int} {t : Tm} {p : Pt} (d : Deaf br t p) : (infP p).source = (if p.on = true then p.source else 0) ∧ 0 ≤ (infP p).source ∧ (infP p).source < 3 := by
  have e : (infP p).source = if p.on = true then p.source else 0 := rfl
  refine ⟨e, ?_⟩
  rw [e]
  cases ho : p.on with
  | true => rcases d.onS ho with h | h <;> simp [h]
  | false => simp
theorem deaf_vec {br : Int} {t : Tm} {p : Pt} (d : Deaf br t p) : (infP p).vec = zeroV := by
  have h := (deaf_src d).2.2
  have e : (infP p).vec = if (infP p).source = 3 then p.vec else zeroV := rfl
  rw [e, if_neg (by omega)]
theorem deaf_noway {br : Int} {t : Tm} {p : Pt} (d : Deaf br t p) (b : Int) : wayR b (infP p) = none := by
  unfold wayR
  rw [if_neg (fun c => by have := (deaf_src d).2.2; omega)]
def DeafL (br : Int) (t : Tm) (l : List Pt) : Prop := ∀ (i : Nat) (p : Pt), l[i]? = some p → Deaf br t p
theorem deaf_rootV {br : Int} {t : Tm} {l : List Pt} (h : DeafL br t l) : rootV br (infosP l) = mineR br ∧ rootP br (infosP l) = none := by
  have h1 : rootV br (infosP l) = mineR br := root_deaf (fun q hq => by
    unfold infosP at hq
    obtain ⟨p, hp, rfl⟩ := List.mem_map.1 hq
    obtain ⟨i, hi⟩ := List.getElem?_of_mem hp
    exact deaf_noway (h i p hi) br)
  exact ⟨h1, rootP_none.2 h1⟩
theorem deaf_right {br : Int} {t : Tm} {S : List Su} {l : List Pt} (hr : rightR (S.map suI) = true) (hs : SuOk S l) (h : DeafL br t l) : rightR (infosP l) = true := by
  have hlen : l.length = S.length := by
    have := congrArg List.length hs
    simpa using this
  have h1 := right_len hr
  rw [List.length_map] at h1
  have hp := hr
  unfold rightR at hp
  simp only [Bool.and_eq_true, decide_eq_true_eq] at hp
  have hpw := hp.2
  unfold rightR
  simp only [Bool.and_eq_true, decide_eq_true_eq, List.all_eq_true]
  refine ⟨⟨?_, ?_⟩, ?_⟩
  · unfold infosP
    rw [List.length_map]
    omega
  · intro q hq
    unfold infosP at hq
    obtain ⟨p, hp, rfl⟩ := List.mem_map.1 hq
    obtain ⟨i, hi⟩ := List.getElem?_of_mem hp
    have d := h i p hi
    have e := congrArg (fun m => m[i]?) hs
    simp only [List.getElem?_map, hi, Option.map_some] at e
    cases hS : S[i]? with
    | none => rw [hS] at e; cases e
    | some s =>
      rw [hS] at e
      simp only [Option.map_some, Option.some.injEq] at e
      have hb := right_each hr (p := suI s) (List.mem_map.2 ⟨s, List.mem_of_getElem? hS, rfl⟩)
      unfold infB at hb ⊢
      simp only [decide_eq_true_eq] at hb ⊢
      have e1 : p.id = s.id := congrArg Prod.fst e
      have e2 : p.cost = s.cost := congrArg Prod.snd e
      have hsrc := (deaf_src d).2
      have hv := deaf_vec d
      obtain ⟨⟨b1, b2⟩, b3, _⟩ := hb
      refine ⟨⟨?_, ?_⟩, ?_, ⟨hsrc.1, by omega⟩, ?_, fun _ => hv⟩
      · show 1 ≤ p.id
        rw [e1]; exact b1
      · show p.id ≤ 65535
        rw [e1]; exact b2
      · show p.cost ≤ 4294967295
        rw [e2]; exact b3
      · rw [hv]; show (0 : Int) ≤ 4294967295; omega
  · have h2 : (S.map (fun s => (s.id, s.cost))).Pairwise (fun a b => ¬ a.1 = b.1) := by
      rw [List.pairwise_map]
      rw [List.pairwise_map] at hpw
      exact hpw
    rw [← hs, List.pairwise_map] at h2
    unfold infosP
    rw [List.pairwise_map]
    exact h2
theorem deaf_age {br : Int} {t : Tm} {p : Pt} (d : Deaf br t p) : ageP p = p := by
  unfold ageP
  rw [if_neg (fun c => by
    cases ho : p.on with
    | true => have := d.onS ho; omega
    | false => have := d.offS ho; omega)]
theorem deaf_chosen {br : Int} {t : Tm} {l : List Pt} (h : DeafL br t l) {i : Nat} {p : Pt} (hp : l[i]? = some p) : Dm br t (settleP (chooseAt br t l i p)) := by
  have d := h i p hp
  obtain ⟨hv, hr⟩ := deaf_rootV h
  have hg : givenP br t l = t := by unfold givenP; rw [hr]
  obtain ⟨hs, _, hs3⟩ := deaf_src d
  have hsel : roleAt br (infosP l) i (infP p) = if p.on = true then 2 else 0 := by
    unfold roleAt
    rw [hv]
    cases ho : p.on with
    | true =>
      rw [if_pos rfl]
      rw [ho, if_pos rfl] at hs
      refine role_mid ?_ (by omega)
      rcases d.onS ho with e | e <;> omega
    | false =>
      rw [if_neg (by decide)]
      rw [ho, if_neg (by decide)] at hs
      exact role_0 hs
  have hch : chooseAt br t l i p = { p with reselect := false, ready := true, offer := ownO br p, given := t, selected := if p.on = true then 2 else 0, update := decide ((infP p).source = 1) || (decide ((infP p).source = 2) && !(decide (p.vec = ownO br p) && decide (p.times = t))) || (decide ((infP p).source = 3) && decide ((if p.on = true then (2 : Int) else 0) = 2)) } := by
    unfold chooseAt
    rw [hv, hg, hsel]
    rfl
  obtain ⟨U, hU⟩ : ∃ U, (decide ((infP p).source = 1) || (decide ((infP p).source = 2) && !(decide (p.vec = ownO br p) && decide (p.times = t))) || (decide ((infP p).source = 3) && decide ((if p.on = true then (2 : Int) else 0) = 2))) = U := ⟨_, rfl⟩
  rw [hU] at hch
  rw [hch]
  unfold settleP
  cases U with
  | true =>
    have hon : p.on = true := by
      cases ho : p.on with
      | true => rfl
      | false =>
        rw [ho, if_neg (by decide)] at hs
        rw [hs] at hU
        simp at hU
    rw [if_pos ⟨rfl, rfl⟩]
    exact ⟨⟨fun _ => .inr rfl, fun e => absurd (show p.on = false from e) (by rw [hon]; decide), d.sync, d.reroot, d.disputed, rfl, d.agree, d.hTc, d.hTcn, d.hAck, d.hRstp, d.hStp, d.sRstp, rfl, d.role, d.off0, d.adm, d.safe⟩, ⟨rfl, rfl, rfl, rfl, fun _ => rfl⟩⟩
  | false =>
    rw [if_neg (fun c => by have : false = true := c.2; cases this)]
    have h1 : p.on = true → p.source = 2 := by
      intro ho
      rw [ho, if_pos rfl] at hs
      rcases d.onS ho with e | e
      · rw [hs, e] at hU
        simp at hU
      · exact e
    exact ⟨⟨d.onS, d.offS, d.sync, d.reroot, d.disputed, d.proposed, d.agree, d.hTc, d.hTcn, d.hAck, d.hRstp, d.hStp, d.sRstp, rfl, d.role, d.off0, d.adm, d.safe⟩, ⟨rfl, rfl, rfl, rfl, h1⟩⟩
theorem settled_dm {br : Int} {t : Tm} {l : List Pt} (h : DeafL br t l) (hm : mayB br t l = true) : DmL br t (settledP br t l) := by
  unfold settledP
  rw [map_same (fun i p hp => deaf_age (h i p hp)), choose_may hm]
  intro i q hq
  simp only [List.getElem?_map, List.getElem?_mapIdx, Option.map_map, Option.map_eq_some_iff] at hq
  obtain ⟨p, hp, rfl⟩ := hq
  exact deaf_chosen h hp

/-! ### What may happen -/
theorem power_deaf {br : Int} {t : Tm} {p : Pt} (d : Deaf br t p) (hs : safeB p = true) (on : Bool) : Deaf br t (powerP p on) := by
  unfold powerP
  split
  · exact d
  · split
    · exact ⟨fun _ => .inl rfl, fun e => absurd (show true = false from e) (by decide), d.sync, d.reroot, d.disputed, d.proposed, d.agree, d.hTc, d.hTcn, d.hAck, d.hRstp, d.hStp, d.sRstp, d.upd, d.role, d.off0, d.adm, fun _ => hs⟩
    · exact ⟨fun e => absurd (show false = true from e) (by decide), fun _ => rfl, d.sync, d.reroot, d.disputed, rfl, rfl, d.hTc, d.hTcn, d.hAck, d.hRstp, d.hStp, d.sRstp, d.upd, d.role, d.off0, fun e => e, fun e => absurd (show false = true from e) (by decide)⟩
theorem power_resel {p : Pt} {on : Bool} : powerP p on = p ∨ (powerP p on).reselect = true := by
  unfold powerP
  split
  · exact .inl rfl
  · split
    · exact .inr rfl
    · exact .inr rfl
theorem power_su (p : Pt) (on : Bool) : suK (powerP p on) = suK p := by
  unfold powerP
  repeat' split
  all_goals rfl
theorem tick_dm {br : Int} {t : Tm} {p : Pt} (h : Dm br t p) : Dm br t (tickP p) := by
  obtain ⟨d, c⟩ := h
  exact ⟨⟨d.onS, d.offS, d.sync, d.reroot, d.disputed, d.proposed, d.agree, d.hTc, d.hTcn, d.hAck, d.hRstp, d.hStp, d.sRstp, d.upd, d.role, d.off0, d.adm, d.safe⟩, ⟨c.ready, c.resel, c.sel, c.offer, c.src⟩⟩
theorem check_dm {br : Int} {t : Tm} {p : Pt} (h : Dm br t p) : Dm br t (checkP p) := by
  obtain ⟨d, c⟩ := h
  exact ⟨⟨d.onS, d.offS, d.sync, d.reroot, d.disputed, d.proposed, d.agree, d.hTc, d.hTcn, d.hAck, d.hRstp, d.hStp, d.sRstp, d.upd, d.role, d.off0, d.adm, d.safe⟩, ⟨c.ready, c.resel, c.sel, c.offer, c.src⟩⟩
theorem hello_dm {br : Int} {t : Tm} {p : Pt} (h : Dm br t p) : Dm br t (helloP t p) := by
  obtain ⟨d, c⟩ := h
  unfold helloP
  split
  · exact ⟨⟨d.onS, d.offS, d.sync, d.reroot, d.disputed, d.proposed, d.agree, d.hTc, d.hTcn, d.hAck, d.hRstp, d.hStp, d.sRstp, d.upd, d.role, d.off0, d.adm, d.safe⟩, ⟨c.ready, c.resel, c.sel, c.offer, c.src⟩⟩
  · exact ⟨d, c⟩
theorem sent_dm {br : Int} {t : Tm} {p : Pt} (h : Dm br t p) : Dm br t (sentP t p) := by
  have hh := hello_dm h
  unfold sentP sendP
  split
  · exact h
  split
  · exact hh
  obtain ⟨d, c⟩ := hh
  split
  · exact ⟨⟨d.onS, d.offS, d.sync, d.reroot, d.disputed, d.proposed, d.agree, d.hTc, d.hTcn, d.hAck, d.hRstp, d.hStp, d.sRstp, d.upd, d.role, d.off0, d.adm, d.safe⟩, ⟨c.ready, c.resel, c.sel, c.offer, c.src⟩⟩
  split
  · exact ⟨⟨d.onS, d.offS, d.sync, d.reroot, d.disputed, d.proposed, d.agree, d.hTc, d.hTcn, d.hAck, d.hRstp, d.hStp, d.sRstp, d.upd, d.role, d.off0, d.adm, d.safe⟩, ⟨c.ready, c.resel, c.sel, c.offer, c.src⟩⟩
  · exact ⟨⟨d.onS, d.offS, d.sync, d.reroot, d.disputed, d.proposed, d.agree, d.hTc, d.hTcn, d.hAck, d.hRstp, d.hStp, d.sRstp, d.upd, d.role, d.off0, d.adm, d.safe⟩, ⟨c.ready, c.resel, c.sel, c.offer, c.src⟩⟩
theorem atSet_at {l : List Pt} {k i : Nat} {f : Pt → Pt} {q : Pt} (h : (atSet l k f)[i]? = some q) : ∃ p, l[i]? = some p ∧ (q = p ∨ (i = k ∧ q = f p)) := by
  unfold atSet at h
  cases hp : l[k]? with
  | none => rw [hp] at h; exact ⟨q, h, .inl rfl⟩
  | some p =>
    rw [hp] at h
    dsimp only at h
    by_cases e : k = i
    · subst e
      have hk := (List.getElem?_eq_some_iff.1 hp).1
      rw [List.getElem?_set] at h
      simp [hk] at h
      exact ⟨p, hp, .inr ⟨rfl, h.symm⟩⟩
    · rw [List.getElem?_set_ne e] at h
      exact ⟨q, h, .inl rfl⟩
theorem atSet_su {l : List Pt} {k : Nat} {f : Pt → Pt} (hf : ∀ p, suK (f p) = suK p) : (atSet l k f).map suK = l.map suK := by
  unfold atSet
  cases hp : l[k]? with
  | none => rfl
  | some p =>
    dsimp only
    apply List.ext_getElem?
    intro i
    rw [List.getElem?_map, List.getElem?_map, List.getElem?_set]
    by_cases e : k = i
    · subst e
      have hk := (List.getElem?_eq_some_iff.1 hp).1
      simp [hk, hp, hf]
      have := (List.getElem?_eq_some_iff.1 hp).2
      rw [this]
    · simp [e]
/-- Of a bridge that hears nothing, whatever happened: all have their roles, and it is the root. -/
structure Al (S : List Su) (br : Int) (t : Tm) (x : Rs) : Prop where
  dm : DmL br t x.l
  safe : AllSafe x.l
  su : SuOk S x.l
  alone : ∀ (i : Nat) (p : Pt), x.l[i]? = some p → AloneP br p
theorem al_run {S : List Su} {br : Int} {t : Tm} {x : Rs} (hb : rightBr t = true) (hd : DmL br t (settledP br t x.l)) (hs : SuOk S x.l) : Al S br t (runP br t x) := by
  obtain ⟨h1, h2⟩ := run_rests hb hd
  exact ⟨h1, run_safe br t x, (run_su br t x).trans hs, fun i p hp => rest_alone (h1 i p hp) (h2 i p hp)⟩
theorem new_parts {t : Tm} {S : List Su} (h : newB t S = true) : 0 < S.length ∧ rightBr t = true ∧ rightR (S.map suI) = true := by
  unfold newB at h
  simp only [Bool.and_eq_true, decide_eq_true_eq] at h
  exact ⟨h.1, h.2.1, h.2.2⟩
theorem any_resel {l : List Pt} {i : Nat} {p : Pt} (hp : l[i]? = some p) (h : p.reselect = true) : l.any Pt.reselect = true := List.any_eq_true.2 ⟨p, List.mem_of_getElem? hp, h⟩
theorem may_of {br : Int} {t : Tm} {S : List Su} {l : List Pt} (hn : newB t S = true) (hs : SuOk S l) (hd : DeafL br t l) (ha : l.any Pt.reselect = true) : mayB br t l = true := by
  obtain ⟨_, h2, h3⟩ := new_parts hn
  unfold mayB
  rw [ha, h2, deaf_right h3 hs hd]
  rfl
theorem al_new {S : List Su} {br : Int} {t : Tm} (hn : newB t S = true) : Al S br t (newX br t S) := by
  obtain ⟨h1, h2, h3⟩ := new_parts hn
  have hs : SuOk S (S.map suP) := by unfold SuOk; rw [List.map_map]; rfl
  have hd : DeafL br t (S.map suP) := by
    intro i p hp
    rw [List.getElem?_map, Option.map_eq_some_iff] at hp
    obtain ⟨s, _, rfl⟩ := hp
    exact ⟨fun e => absurd (show false = true from e) (by decide), fun _ => rfl, rfl, rfl, rfl, rfl, rfl, rfl, rfl, rfl, rfl, rfl, rfl, rfl, .inl rfl, fun _ => ⟨rfl, rfl⟩, fun e => e, fun e => absurd (show false = true from e) (by decide)⟩
  refine al_run h2 (settled_dm hd (may_of hn hs hd ?_)) hs
  cases hS : S with
  | nil => rw [hS] at h1; exact absurd h1 (by decide)
  | cons s S' => rfl
theorem al_power {S : List Su} {br : Int} {t : Tm} {x : Rs} (hn : newB t S = true) (h : Al S br t x) (k : Nat) (on : Bool) : Al S br t (powerX br t x k on) := by
  obtain ⟨_, h2, _⟩ := new_parts hn
  have hs : SuOk S (atSet x.l k (fun p => powerP p on)) := (atSet_su (fun p => power_su p on)).trans h.su
  refine al_run h2 ?_ hs
  show DmL br t (settledP br t (atSet x.l k (fun p => powerP p on)))
  by_cases hsame : atSet x.l k (fun p => powerP p on) = x.l
  · rw [hsame, settled_same h.dm]
    exact h.dm
  · have hd : DeafL br t (atSet x.l k (fun p => powerP p on)) := by
      intro i q hq
      obtain ⟨p, hp, e⟩ := atSet_at hq
      rcases e with rfl | ⟨_, rfl⟩
      · exact (h.dm i q hp).d
      · exact power_deaf (h.dm i p hp).d (h.safe i p hp) on
    refine settled_dm hd (may_of hn hs hd ?_)
    cases hp : x.l[k]? with
    | none => exact absurd (by unfold atSet; rw [hp]) hsame
    | some p =>
      have hk := (List.getElem?_eq_some_iff.1 hp).1
      have hat : (atSet x.l k (fun p => powerP p on))[k]? = some (powerP p on) := by
        unfold atSet
        rw [hp]
        dsimp only
        rw [List.getElem?_set]
        simp [hk]
      rcases power_resel (p := p) (on := on) with e | e
      · refine absurd ?_ hsame
        unfold atSet
        rw [hp]
        dsimp only
        rw [e]
        apply List.ext_getElem?
        intro i
        rw [List.getElem?_set]
        by_cases ei : k = i
        · subst ei
          simp [hk, hp]
          exact (List.getElem?_eq_some_iff.1 hp).2.symm
        · simp [ei]
      · exact any_resel hat e
theorem al_map {S : List Su} {br : Int} {t : Tm} {x : Rs} (hn : newB t S = true) (h : Al S br t x) {f : Pt → Pt} (hf : ∀ p, Dm br t p → Dm br t (f p)) (hk : ∀ p, suK (f p) = suK p) : Al S br t (runP br t { x with l := x.l.map f }) := by
  obtain ⟨_, h2, _⟩ := new_parts hn
  have hd := dm_map h.dm hf
  refine al_run h2 ?_ ?_
  · show DmL br t (settledP br t (x.l.map f))
    rw [settled_same hd]
    exact hd
  · show (x.l.map f).map suK = _
    rw [List.map_map, show suK ∘ f = suK from funext hk]
    exact h.su
theorem al_tick {S : List Su} {br : Int} {t : Tm} {x : Rs} (hn : newB t S = true) (h : Al S br t x) : Al S br t (tickX br t x) := al_map hn h (fun p hp => tick_dm hp) (fun p => rfl)
theorem sent_su (t : Tm) (p : Pt) : suK (sentP t p) = suK p := by
  have h : suK (helloP t p) = suK p := by unfold helloP; split <;> rfl
  unfold sentP sendP
  repeat' split
  · rfl
  · exact h
  · exact h
  · exact h
  · exact h
theorem al_send {S : List Su} {br : Int} {t : Tm} {x : Rs} (hn : newB t S = true) (h : Al S br t x) : Al S br t (sendX br t x) := al_map hn h (fun p hp => sent_dm hp) (sent_su t)
theorem al_check {S : List Su} {br : Int} {t : Tm} {x : Rs} (hn : newB t S = true) (h : Al S br t x) (k : Nat) : Al S br t (checkX br t x k) := by
  obtain ⟨_, h2, _⟩ := new_parts hn
  have hd : DmL br t (atSet x.l k checkP) := by
    intro i q hq
    obtain ⟨p, hp, e⟩ := atSet_at hq
    rcases e with rfl | ⟨_, rfl⟩
    · exact h.dm i q hp
    · exact check_dm (h.dm i p hp)
  refine al_run h2 ?_ ((atSet_su (f := checkP) (fun p => rfl)).trans h.su)
  show DmL br t (settledP br t (atSet x.l k checkP))
  rw [settled_same hd]
  exact hd
theorem al_forgotten {S : List Su} {br : Int} {t : Tm} {x : Rs} (h : Al S br t x) : Al S br t { x with f := [] } := ⟨h.dm, h.safe, h.su, h.alone⟩
end Im
end Go.Proofs.YtldobcfejldbiaaGreatDoor
