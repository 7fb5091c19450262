/-
  Plain mathematics of layer 14 (what a port sends, and in which tongue): no program is named here.
-/
import Derived.Test.YtngdilmgbgdkcaaDoorChMath
namespace Go.Proofs.YtngdilmgbgdkcaaDoor
set_option linter.unusedVariables false
set_option linter.unusedSimpArgs false
namespace Im
open Vm Rm Bm

/-! ### The tongue -/
def checksP (p : Pt) : Pt := { p with migrate := 0, check := false, sendRstp := true, md := 3 }
def sensesP (p : Pt) : Pt := { p with migrate := 2, heardRstp := false, heardStp := false }
def oldP (p : Pt) : Pt := { p with sendRstp := false, md := 3, migrate := 1 }
def tongueP (p : Pt) : Pt :=
  if p.migrate = 0 then (if p.on = false ∧ ¬ p.md = 3 then checksP p else if p.md = 0 then sensesP p else p)
  else if p.migrate = 1 then (if p.md = 0 ∨ p.on = false ∨ p.check = true then sensesP p else p)
  else if p.migrate = 2 then
    (if p.on = false ∨ p.check = true ∨ (p.sendRstp = false ∧ p.heardRstp = true) then checksP p
     else if p.sendRstp = true ∧ p.heardStp = true then oldP p else p)
  else p
def edgeB (p : Pt) : Bool := p.on && (!p.oper && (p.proposing && (p.sendRstp && decide (p.edge = 0))))
def edgeP (p : Pt) : Pt := if edgeB p = true then { p with oper := true } else p
/-- Nothing but the tongue's own cells is touched. -/
structure Tg (p q : Pt) : Prop where
  on : q.on = p.on
  role : q.role = p.role
  learn : q.learn = p.learn
  vec : q.vec = p.vec
theorem tongue_keeps (p : Pt) : Tg p (tongueP p) := by
  unfold tongueP
  repeat' split
  all_goals exact ⟨rfl, rfl, rfl, rfl⟩
theorem tongue_far {p : Pt} (h : p.migrate < 0 ∨ 2 < p.migrate) : tongueP p = p := by
  unfold tongueP
  rw [if_neg (by omega), if_neg (by omega), if_neg (by omega)]
theorem tongue_old {p : Pt} (h : p.migrate = 2) (ho : p.on = true) (hc : p.check = false) (hs : p.sendRstp = true) (hh : p.heardStp = true) : tongueP p = oldP p := by
  unfold tongueP
  rw [if_neg (by omega), if_neg (by omega), if_pos h, if_neg (by simp [ho, hc, hs]), if_pos ⟨hs, hh⟩]
theorem tongue_new {p : Pt} (h : p.migrate = 2) (hs : p.sendRstp = false) (hh : p.heardRstp = true) : tongueP p = checksP p := by
  unfold tongueP
  rw [if_neg (by omega), if_neg (by omega), if_pos h, if_pos (.inr (.inr ⟨hs, hh⟩))]
theorem tongue_told {p : Pt} (h : p.migrate = 2) (hc : p.check = true ∨ p.on = false) : tongueP p = checksP p := by
  unfold tongueP
  rw [if_neg (by omega), if_neg (by omega), if_pos h, if_pos (hc.elim (fun h => .inr (.inl h)) .inl)]
theorem edge_oper {p : Pt} (h : p.oper = true) : edgeP p = p := by
  unfold edgeP edgeB
  rw [if_neg (by simp [h])]
theorem edge_back (p : Pt) : { edgeP p with oper := p.oper } = p := by
  unfold edgeP
  split <;> rfl
theorem edge_when {p : Pt} (h : (edgeP p).oper = true) (h0 : p.oper = false) : p.on = true ∧ p.proposing = true ∧ p.edge = 0 := by
  unfold edgeP at h
  split at h
  · rename_i hb
    simp [edgeB] at hb
    exact ⟨hb.1, hb.2.2.1, hb.2.2.2.2⟩
  · rw [h0] at h; cases h

/-! ### What goes out -/
def bI (b : Bool) (n : Int) : Int := if b = true then n else 0
def toldRole (r : Int) : Int := if r = 1 then 2 else if r = 2 then 3 else if r = 3 ∨ r = 4 then 1 else 0
def flagsI (p : Pt) (config : Bool) : Int :=
  if config = true then bI (decide (0 < p.tc)) 1 + bI p.tcAck 128
  else bI (decide (0 < p.tc)) 1 + bI p.proposing 2 + 4 * toldRole p.role + bI p.learning 16 + bI p.forwarding 32 + bI p.agree 64
def scaledI (n : Int) : Int := if 65535 < n * 256 then 65535 else n * 256
def kindP (p : Pt) : Int :=
  if p.sendRstp = true then (if 1 ≤ p.role ∧ p.role ≤ 4 then 3 else 0)
  else if p.role = 2 then 1 else if p.role = 1 then 2 else 0
def helloP (t : Tm) (p : Pt) : Pt :=
  if p.hello = 0 then { p with newInfo := p.newInfo || (decide (p.role = 2) || (decide (p.role = 1) && !decide (p.tc = 0))), hello := t.hello } else p
def msgP (p : Pt) : Bp :=
  ⟨kindP p, flagsI p (decide (kindP p = 1)), p.offer.root, p.offer.cost, p.offer.bridge, p.offer.port, scaledI p.given.age, scaledI p.given.max, scaledI p.given.hello, scaledI p.given.delay⟩
def noticeM : Bp := ⟨2, 0, 0, 0, 0, 0, 0, 0, 0, 0⟩
def zeroM : Bp := ⟨0, 0, 0, 0, 0, 0, 0, 0, 0, 0⟩
def goesB (t : Tm) (p : Pt) : Bool := rightBr t && (p.on && (p.ready && !p.update))
def sendP (t : Tm) (p : Pt) : Pt × Bp × Bool :=
  if goesB t p = false then (p, zeroM, false)
  else if (helloP t p).newInfo = false ∨ 5 < (helloP t p).txCount then (helloP t p, zeroM, false)
  else if kindP p = 0 then ({ helloP t p with newInfo := false }, zeroM, false)
  else if kindP p = 2 then ({ helloP t p with newInfo := false, txCount := (helloP t p).txCount + 1 }, noticeM, true)
  else ({ helloP t p with newInfo := false, txCount := (helloP t p).txCount + 1, tcAck := false }, msgP (helloP t p), true)

theorem hello_tx (t : Tm) (p : Pt) : (helloP t p).txCount = p.txCount := by unfold helloP; split <;> rfl
theorem hello_new {t : Tm} {p : Pt} (h : p.newInfo = true) : (helloP t p).newInfo = true := by
  unfold helloP
  split
  · show (p.newInfo || _) = true
    rw [h]; rfl
  · exact h
/-- What sending leaves. -/
structure Sd (p q : Pt) : Prop where
  on : q.on = p.on
  ready : q.ready = p.ready
  update : q.update = p.update
  sendRstp : q.sendRstp = p.sendRstp
  role : q.role = p.role
  offer : q.offer = p.offer
  given : q.given = p.given
theorem Sd.refl (p : Pt) : Sd p p := ⟨rfl, rfl, rfl, rfl, rfl, rfl, rfl⟩
theorem Sd.trans {p q r : Pt} (h : Sd p q) (h' : Sd q r) : Sd p r :=
  ⟨h'.on.trans h.on, h'.ready.trans h.ready, h'.update.trans h.update, h'.sendRstp.trans h.sendRstp, h'.role.trans h.role, h'.offer.trans h.offer, h'.given.trans h.given⟩
theorem hello_keeps (t : Tm) (p : Pt) : Sd p (helloP t p) := by unfold helloP; split <;> exact ⟨rfl, rfl, rfl, rfl, rfl, rfl, rfl⟩
theorem send_keeps (t : Tm) (p : Pt) : Sd p (sendP t p).1 := by
  have h := hello_keeps t p
  unfold sendP
  repeat' split
  · exact Sd.refl p
  · exact h
  · exact ⟨h.on, h.ready, h.update, h.sendRstp, h.role, h.offer, h.given⟩
  · exact ⟨h.on, h.ready, h.update, h.sendRstp, h.role, h.offer, h.given⟩
  · exact ⟨h.on, h.ready, h.update, h.sendRstp, h.role, h.offer, h.given⟩
theorem kind_keeps {p q : Pt} (h : Sd p q) : kindP q = kindP p := by unfold kindP; rw [h.sendRstp, h.role]
theorem goes_keeps (t : Tm) {p q : Pt} (h : Sd p q) : goesB t q = goesB t p := by unfold goesB; rw [h.on, h.ready, h.update]
/-- May it send at all, whenever something is new? -/
def canB (t : Tm) (p : Pt) : Bool := goesB t p && !decide (kindP p = 0)
theorem can_keeps (t : Tm) {p q : Pt} (h : Sd p q) : canB t q = canB t p := by unfold canB; rw [goes_keeps t h, kind_keeps h]
theorem send_no {t : Tm} {p : Pt} (h : (sendP t p).2.2 = false) : (sendP t p).2.1 = zeroM ∧ (sendP t p).1.txCount = p.txCount := by
  have e := hello_tx t p
  unfold sendP at h ⊢
  repeat' split at h
  · rename_i h1; rw [if_pos h1]; exact ⟨rfl, rfl⟩
  · rename_i h1 h2; rw [if_neg h1, if_pos h2]; exact ⟨rfl, e⟩
  · rename_i h1 h2 h3; rw [if_neg h1, if_neg h2, if_pos h3]; exact ⟨rfl, e⟩
  · cases h
  · cases h
/-- Something is sent: just when it may, and fewer than six are counted. -/
theorem send_yes {t : Tm} {p : Pt} (h : (sendP t p).2.2 = true) :
    canB t p = true ∧ p.txCount ≤ 5 ∧ (sendP t p).1.txCount = p.txCount + 1 ∧ (sendP t p).2.1 = (if kindP p = 2 then noticeM else msgP (helloP t p)) := by
  have e := hello_tx t p
  unfold sendP at h ⊢
  repeat' split at h
  · cases h
  · cases h
  · cases h
  · rename_i h1 h2 h3 h4
    rw [if_neg h1, if_neg h2, if_neg h3, if_pos h4]
    refine ⟨by unfold canB; rw [Bool.not_eq_false] at h1; rw [h1, decide_eq_false h3]; rfl, by omega, ?_, by rw [if_pos h4]⟩
    show (helloP t p).txCount + 1 = _
    rw [e]
  · rename_i h1 h2 h3 h4
    rw [if_neg h1, if_neg h2, if_neg h3, if_neg h4]
    refine ⟨by unfold canB; rw [Bool.not_eq_false] at h1; rw [h1, decide_eq_false h3]; rfl, by omega, ?_, by rw [if_neg h4]⟩
    show (helloP t p).txCount + 1 = _
    rw [e]
theorem send_new {t : Tm} {p : Pt} (h : p.newInfo = true) (hc : canB t p = true) (h5 : p.txCount ≤ 5) : (sendP t p).2.2 = true := by
  unfold canB at hc
  rw [Bool.and_eq_true] at hc
  have hk : ¬ kindP p = 0 := by simpa using hc.2
  have e := hello_tx t p
  unfold sendP
  rw [if_neg (by rw [hc.1]; decide), if_neg (by rw [hello_new h]; simp; omega), if_neg hk]
  split <;> rfl

/-! ### What is sent is right -/
theorem bI_or (b : Bool) (n : Int) : (b = true ∧ bI b n = n) ∨ (b = false ∧ bI b n = 0) := by cases b <;> simp [bI]
theorem toldRole_in (r : Int) : 0 ≤ toldRole r ∧ toldRole r ≤ 3 := by
  unfold toldRole
  repeat' split
  all_goals omega
theorem flagsI_in (p : Pt) (c : Bool) : 0 ≤ flagsI p c ∧ flagsI p c ≤ 255 := by
  have h := toldRole_in p.role
  unfold flagsI
  have a1 := bI_or (decide (0 < p.tc)) 1
  have a2 := bI_or p.tcAck 128
  have a3 := bI_or p.proposing 2
  have a4 := bI_or p.learning 16
  have a5 := bI_or p.forwarding 32
  have a6 := bI_or p.agree 64
  split <;> omega
theorem flagsI_role (p : Pt) : roleF (flagsI p false) = toldRole p.role := by
  have h := toldRole_in p.role
  unfold flagsI roleF
  rw [if_neg (by decide)]
  have a1 := bI_or (decide (0 < p.tc)) 1
  have a3 := bI_or p.proposing 2
  have a4 := bI_or p.learning 16
  have a5 := bI_or p.forwarding 32
  have a6 := bI_or p.agree 64
  omega
theorem toldRole_three (r : Int) : toldRole r = 3 ↔ r = 2 := by
  unfold toldRole
  repeat' split
  all_goals omega
theorem scaledI_in {n : Int} (h : 0 ≤ n) : 0 ≤ scaledI n ∧ scaledI n ≤ 65535 := by unfold scaledI; split <;> omega
theorem withinB_of {n m : Int} (h : 0 ≤ n ∧ n ≤ m) : withinB n m = true := decide_eq_true h
theorem notice_right : rightB noticeM = true := by decide
theorem kind_is (p : Pt) : kindP p = 0 ∨ kindP p = 1 ∨ kindP p = 2 ∨ kindP p = 3 := by
  unfold kindP
  repeat' split
  all_goals first | exact .inl rfl | exact .inr (.inl rfl) | exact .inr (.inr (.inl rfl)) | exact .inr (.inr (.inr rfl))
theorem msg_right {p : Pt} (h0 : ¬ kindP p = 0) (h2 : ¬ kindP p = 2) (hc : p.offer.cost ≤ 4294967295) (hp : p.offer.port ≤ 65535) (ha : 0 ≤ p.given.age) (hm : 0 ≤ p.given.max) (hh : 0 ≤ p.given.hello) (hd : 0 ≤ p.given.delay) : rightB (msgP p) = true := by
  unfold rightB
  rw [if_neg (show ¬ (msgP p).kind = 2 from h2), if_pos (show (msgP p).kind = 1 ∨ (msgP p).kind = 3 by show kindP p = 1 ∨ kindP p = 3; rcases kind_is p with h | h | h | h <;> simp_all)]
  unfold numsB msgP
  simp only [Bool.and_eq_true]
  exact ⟨withinB_of (flagsI_in _ _), decide_eq_true hc, decide_eq_true hp, withinB_of (scaledI_in ha), withinB_of (scaledI_in hm), withinB_of (scaledI_in hh), withinB_of (scaledI_in hd)⟩

/-! ### Again and again -/
/-- The timers, and how many were sent, are 64 bits wide. -/
def TkP (p : Pt) : Prop := (-9223372036854775808 ≤ p.fd ∧ p.fd ≤ 9223372036854775807) ∧ (-9223372036854775808 ≤ p.rr ∧ p.rr ≤ 9223372036854775807) ∧ (-9223372036854775808 ≤ p.rb ∧ p.rb ≤ 9223372036854775807) ∧ (-9223372036854775808 ≤ p.tc ∧ p.tc ≤ 9223372036854775807) ∧ (-9223372036854775808 ≤ p.edge ∧ p.edge ≤ 9223372036854775807) ∧ (-9223372036854775808 ≤ p.md ∧ p.md ≤ 9223372036854775807) ∧ (-9223372036854775808 ≤ p.info ∧ p.info ≤ 9223372036854775807) ∧ (-9223372036854775808 ≤ p.hello ∧ p.hello ≤ 9223372036854775807) ∧ (-9223372036854775808 ≤ p.txCount ∧ p.txCount ≤ 9223372036854775807)
theorem hello_tk {t : Tm} {p : Pt} (hb : rightBr t = true) (h : TkP p) : TkP (helloP t p) := by
  obtain ⟨h1, h2, h3, h4, h5, h6, h7, h8, h9⟩ := h
  unfold helloP
  split
  · refine ⟨h1, h2, h3, h4, h5, h6, h7, ?_, h9⟩
    unfold rightBr at hb
    have := of_decide_eq_true hb
    show -9223372036854775808 ≤ t.hello ∧ t.hello ≤ 9223372036854775807
    omega
  · exact ⟨h1, h2, h3, h4, h5, h6, h7, h8, h9⟩
theorem send_tk {t : Tm} {p : Pt} (h : TkP p) : TkP (sendP t p).1 := by
  unfold sendP
  by_cases hg : goesB t p = false
  · rw [if_pos hg]; exact h
  · rw [if_neg hg]
    have hb : rightBr t = true := by
      cases hr : rightBr t
      · exact absurd (by unfold goesB; rw [hr]; rfl) hg
      · rfl
    have hh := hello_tk hb h
    obtain ⟨h1, h2, h3, h4, h5, h6, h7, h8, h9⟩ := hh
    by_cases h0 : (helloP t p).newInfo = false ∨ 5 < (helloP t p).txCount
    · rw [if_pos h0]; exact ⟨h1, h2, h3, h4, h5, h6, h7, h8, h9⟩
    · rw [if_neg h0]
      have ht : (helloP t p).txCount ≤ 5 := by omega
      have h9' : -9223372036854775808 ≤ (helloP t p).txCount + 1 ∧ (helloP t p).txCount + 1 ≤ 9223372036854775807 := by omega
      split
      · exact ⟨h1, h2, h3, h4, h5, h6, h7, h8, h9⟩
      · split
        · exact ⟨h1, h2, h3, h4, h5, h6, h7, h8, h9'⟩
        · exact ⟨h1, h2, h3, h4, h5, h6, h7, h8, h9'⟩
theorem less_tk {n : Int} (h : -9223372036854775808 ≤ n ∧ n ≤ 9223372036854775807) : -9223372036854775808 ≤ lessI n ∧ lessI n ≤ 9223372036854775807 := by
  unfold lessI
  split <;> omega
theorem tick_tk {p : Pt} (h : TkP p) : TkP (tickP p) := by
  obtain ⟨h1, h2, h3, h4, h5, h6, h7, h8, h9⟩ := h
  exact ⟨less_tk h1, less_tk h2, less_tk h3, less_tk h4, less_tk h5, less_tk h6, less_tk h7, less_tk h8, less_tk h9⟩
/-- Behind so many sendings, each with something new, of which 'sent' went out. -/
structure Ag (t : Tm) (p q : Pt) (sent : Nat) : Prop where
  keeps : Sd p q
  tx : q.txCount = p.txCount + sent
  can : 0 < sent → canB t p = true ∧ q.txCount ≤ 6
  tk : TkP p → TkP q
theorem ag_zero (t : Tm) (p : Pt) : Ag t p p 0 := ⟨Sd.refl p, by omega, fun h => absurd h (by decide), id⟩
def newP1 (q : Pt) : Pt := { q with newInfo := true }
theorem newP1_keeps (q : Pt) : Sd q (newP1 q) := ⟨rfl, rfl, rfl, rfl, rfl, rfl, rfl⟩
theorem Ag.next {t : Tm} {p q : Pt} {sent : Nat} (h : Ag t p q sent) : Ag t p (sendP t (newP1 q)).1 (if (sendP t (newP1 q)).2.2 = true then sent + 1 else sent) := by
  have hk := h.keeps.trans ((newP1_keeps q).trans (send_keeps t (newP1 q)))
  have ht : TkP p → TkP (sendP t (newP1 q)).1 := fun h0 => send_tk (p := newP1 q) (h.tk h0)
  cases hb : (sendP t (newP1 q)).2.2 with
  | false =>
    rw [if_neg (by decide)]
    have e : (sendP t (newP1 q)).1.txCount = q.txCount := (send_no hb).2
    exact ⟨hk, e.trans h.tx, fun hs => ⟨(h.can hs).1, by rw [e]; exact (h.can hs).2⟩, ht⟩
  | true =>
    rw [if_pos rfl]
    obtain ⟨h1, h2, h3, h4⟩ := send_yes hb
    have h2' : q.txCount ≤ 5 := h2
    have e : (sendP t (newP1 q)).1.txCount = q.txCount + 1 := h3
    refine ⟨hk, by rw [e, h.tx]; omega, fun _ => ⟨?_, by omega⟩, ht⟩
    rw [← can_keeps t (h.keeps.trans (newP1_keeps q))]
    exact h1
theorem Ag.six {t : Tm} {p q : Pt} {sent : Nat} (h : Ag t p q sent) (h0 : 0 ≤ p.txCount) : sent ≤ 6 ∧ q.txCount ≤ max 6 p.txCount := by
  have := h.tx
  by_cases hs : 0 < sent
  · have := (h.can hs).2
    omega
  · omega
theorem newP1_tk {q : Pt} (h : TkP q) : TkP (newP1 q) := h
def tick6 (p : Pt) : Pt := tickP (tickP (tickP (tickP (tickP (tickP p)))))
theorem tick_keeps (p : Pt) : Sd p (tickP p) := ⟨rfl, rfl, rfl, rfl, rfl, rfl, rfl⟩
theorem tick6_keeps (p : Pt) : Sd p (tick6 p) :=
  (tick_keeps _).trans ((tick_keeps _).trans ((tick_keeps _).trans ((tick_keeps _).trans ((tick_keeps _).trans (tick_keeps _)))))
theorem less_le {n m : Int} (h : n ≤ m + 1) (hm : 0 ≤ m) : lessI n ≤ m := by unfold lessI; split <;> omega
theorem tick6_tx {p : Pt} (h : p.txCount ≤ 6) : (tick6 p).txCount ≤ 0 :=
  less_le (less_le (less_le (less_le (less_le (less_le (m := 5) h (by decide)) (by decide)) (by decide)) (by decide)) (by decide)) (by decide)
theorem tick6_tk {p : Pt} (h : TkP p) : TkP (tick6 p) := tick_tk (tick_tk (tick_tk (tick_tk (tick_tk (tick_tk h)))))
theorem ticks_tk {p : Pt} (h : TkP p) : ∀ j : Nat, TkP (Nat.rec p (fun _ x => tickP x) j)
  | 0 => h
  | j + 1 => tick_tk (ticks_tk h j)
/-- With ticks it sends again. -/
theorem Ag.again {t : Tm} {p q : Pt} {sent : Nat} (h : Ag t p q sent) (hs : 0 < sent) : (sendP t (newP1 (tick6 q))).2.2 = true := by
  obtain ⟨h1, h2⟩ := h.can hs
  refine send_new rfl ?_ ?_
  · rw [can_keeps t (h.keeps.trans ((tick6_keeps q).trans (newP1_keeps _)))]
    exact h1
  · have := tick6_tx h2
    show (tick6 q).txCount ≤ 5
    omega
end Im
end Go.Proofs.YtngdilmgbgdkcaaDoor
