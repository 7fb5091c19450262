/-
  Plain mathematics of layers 10 and 11 (what a port knows; what it does with what it hears; how a bridge chooses): no program is named here.
-/
import Derived.Test.YtngdilmgbgdkcaaDoorRoMath2
import Derived.Test.YtngdilmgbgdkcaaDoorBpMath
namespace Go.Proofs.YtngdilmgbgdkcaaDoor
set_option linter.unusedVariables false
set_option linter.unusedSimpArgs false
namespace Im
open Vm Rm Bm

/-- Times, in ticks. -/
structure Tm where
  age : Int
  max : Int
  hello : Int
  delay : Int
deriving DecidableEq
set_option maxRecDepth 100000 in
/-- What a port knows: 61 cells. -/
structure Pt where
  id : Int
  cost : Int
  on : Bool
  admin : Bool
  oper : Bool
  source : Int
  vec : Vc
  times : Tm
  offer : Vc
  given : Tm
  role : Int
  selected : Int
  ready : Bool
  update : Bool
  reselect : Bool
  learn : Bool
  learning : Bool
  forward : Bool
  forwarding : Bool
  agree : Bool
  agreed : Bool
  proposed : Bool
  proposing : Bool
  sync : Bool
  synced : Bool
  reroot : Bool
  disputed : Bool
  newInfo : Bool
  heardTc : Bool
  heardTcn : Bool
  heardAck : Bool
  tcAck : Bool
  tcProp : Bool
  flush : Bool
  sendRstp : Bool
  heardRstp : Bool
  heardStp : Bool
  check : Bool
  fd : Int
  rr : Int
  rb : Int
  tc : Int
  edge : Int
  md : Int
  info : Int
  hello : Int
  txCount : Int
  change : Int
  migrate : Int
deriving DecidableEq

/-! ### Layer 10 -/
def zeroT : Tm := ⟨0, 0, 0, 0⟩
def newP (id cost : Int) (edge : Bool) : Pt :=
  ⟨id, cost, false, edge, edge, 0, zeroV, zeroT, zeroV, zeroT, 0, 0, false, false, false, false, false, false, false, false, false, false, false, false, false, false, false, false, false, false, false, false, false, false, true, false, false, false, 0, 0, 0, 0, 0, 0, 0, 0, 0, 0, 0⟩
def lessI (n : Int) : Int := if 0 < n then n - 1 else n
def tickP (p : Pt) : Pt := { p with fd := lessI p.fd, rr := lessI p.rr, rb := lessI p.rb, tc := lessI p.tc, edge := lessI p.edge, md := lessI p.md, info := lessI p.info, hello := lessI p.hello, txCount := lessI p.txCount }
def vecOf (b : Bp) : Vc := ⟨b.root, b.cost, b.bridge, b.port⟩
def timesOf (b : Bp) : Tm := ⟨b.age / 256, b.max / 256, if b.hello / 256 < 1 then 1 else b.hello / 256, b.delay / 256⟩
/-- Is it heard at all? -/
def heardB (b : Bp) : Bool := rightB b && !decide (b.kind = 2)
def roleF (flags : Int) : Int := flags / 4 % 4
/-- What was heard: 0 to 4. -/
def heardP (p : Pt) (b : Bp) : Int :=
  if heardB b = false then 0
  else if b.kind = 1 ∨ roleF b.flags = 3 then
    (if p.source = 3 ∧ vecOf b = p.vec ∧ timesOf b = p.times then 2 else if superB (vecOf b) p.vec = true then 1 else 3)
  else if ¬ roleF b.flags = 0 ∧ ¬ cmpR (vecOf b) p.vec = -1 then 4 else 0
theorem heard_range (p : Pt) (b : Bp) : 0 ≤ heardP p b ∧ heardP p b ≤ 4 := by
  unfold heardP
  repeat' split
  all_goals omega

/-! ### Layer 11 -/
def bitB (flags : Int) (n : Nat) : Bool := decide (flags / 2 ^ n % 2 = 1)
def powerP (p : Pt) (on : Bool) : Pt :=
  if on = p.on then p
  else if on then { p with on := true, source := 1, reselect := true, ready := false }
  else { p with on := false, source := 0, proposing := false, proposed := false, agree := false, agreed := false, info := 0, reselect := true, ready := false, oper := p.admin }
/-- Behind what was heard, but for what it was. -/
def firstP (p : Pt) (b : Bp) : Pt := { p with heardRstp := p.heardRstp || decide (b.kind = 3), heardStp := p.heardStp || !decide (b.kind = 3), oper := false }
/-- What is recorded of 1 and 2. -/
def recordP (p : Pt) (b : Bp) : Pt :=
  { p with
    proposed := p.proposed || (decide (b.kind = 3) && bitB b.flags 1)
    heardTc := p.heardTc || bitB b.flags 0
    heardAck := p.heardAck || (!decide (b.kind = 3) && bitB b.flags 7)
    info := if (timesOf b).age + 1 > (timesOf b).max then 0 else 3 * (timesOf b).hello }
def superP (p : Pt) (b : Bp) : Pt :=
  { recordP { p with agreed := false, proposing := false } b with
    agree := p.agree && decide (vecOf b = p.vec)
    synced := p.synced && decide (vecOf b = p.vec)
    vec := vecOf b
    times := timesOf b
    source := 3
    reselect := true
    ready := false }
def inferiorP (p : Pt) (b : Bp) : Pt := if b.kind = 3 ∧ bitB b.flags 4 = true then { p with disputed := true, agreed := false } else p
def otherP (p : Pt) (b : Bp) : Pt :=
  { p with
    agreed := p.agreed || (decide (b.kind = 3) && p.sendRstp && bitB b.flags 6)
    proposing := p.proposing && !(decide (b.kind = 3) && p.sendRstp && bitB b.flags 6)
    heardTc := p.heardTc || bitB b.flags 0 }
def hearP (p : Pt) (b : Bp) : Pt :=
  if p.on = false ∨ heardB b = false then p
  else match heardP p b with
    | 1 => superP (firstP p b) b
    | 2 => recordP (firstP p b) b
    | 3 => inferiorP (firstP p b) b
    | 4 => otherP (firstP p b) b
    | _ => firstP p b
def ageP (p : Pt) : Pt := if p.source = 3 ∧ p.info = 0 ∧ p.update = false then { p with source := 1, reselect := true, ready := false } else p
def settleP (p : Pt) : Pt :=
  if p.ready = true ∧ p.update = true then
    { p with
      proposing := false
      proposed := false
      agreed := p.agreed && decide (p.offer = p.vec)
      synced := p.synced && (p.agreed && decide (p.offer = p.vec))
      vec := p.offer
      times := p.given
      update := false
      source := 2
      newInfo := true }
  else p

/-! What InfoOff asks. -/
theorem off_on (p : Pt) : (powerP p false).on = false := by
  unfold powerP
  cases h : p.on
  · rw [if_pos rfl, h]
  · rw [if_neg (by simp), if_neg (by simp)]
theorem power_same {p : Pt} {c : Bool} (h : p.on = c) : powerP p c = p := by unfold powerP; rw [if_pos h.symm]
theorem off_off (p : Pt) : powerP (powerP p false) false = powerP p false := power_same (off_on p)
theorem off_hears (p : Pt) (b : Bp) : hearP (powerP p false) b = powerP p false := by
  unfold hearP
  rw [if_pos (.inl (off_on p))]
theorem off_was {p : Pt} (h : p.on = false) : powerP p false = p := power_same h
theorem on_is (p : Pt) : powerP (powerP p false) true = { powerP p false with on := true, source := 1, reselect := true, ready := false } := by
  have h := off_on p
  rw [show powerP (powerP p false) true = if true = (powerP p false).on then powerP p false else if true then { powerP p false with on := true, source := 1, reselect := true, ready := false } else _ from rfl]
  rw [if_neg (by rw [h]; simp), if_pos rfl]
theorem off_is {p : Pt} (h : p.on = true) : powerP p false = { p with on := false, source := 0, proposing := false, proposed := false, agree := false, agreed := false, info := 0, reselect := true, ready := false, oper := p.admin } := by
  unfold powerP
  rw [if_neg (by rw [h]; simp), if_neg (by simp)]

/-! Settling. -/
theorem settle_update (p : Pt) (h : p.ready = true) : (settleP p).update = false := by
  unfold settleP
  by_cases hu : p.update = true
  · rw [if_pos ⟨h, hu⟩]
  · rw [if_neg (fun c => hu c.2)]
    cases hc : p.update
    · rfl
    · exact absurd hc hu
theorem settle_again (p : Pt) (h : p.ready = true) : settleP (settleP p) = settleP p := by
  have hu := settle_update p h
  obtain ⟨q, hq⟩ : ∃ q, settleP p = q := ⟨_, rfl⟩
  rw [hq] at hu ⊢
  unfold settleP
  rw [if_neg (fun c => by rw [hu] at c; cases c.2)]
theorem settle_is {p : Pt} (h : p.ready = true) (hu : p.update = true) : (settleP p).vec = p.offer ∧ (settleP p).source = 2 := by
  unfold settleP
  rw [if_pos ⟨h, hu⟩]
  exact ⟨rfl, rfl⟩

/-! ### Choosing -/
def rightBr (t : Tm) : Bool := decide (t.age = 0 ∧ (6 ≤ t.max ∧ t.max ≤ 40) ∧ (1 ≤ t.hello ∧ t.hello ≤ 2) ∧ 4 ≤ t.delay ∧ t.delay ≤ 30)
def infP (p : Pt) : Inf := ⟨p.id, p.cost, if p.on then p.source else 0, if (if p.on then p.source else 0) = 3 then p.vec else zeroV⟩
def infosP (l : List Pt) : List Inf := l.map infP
/-- One more, as numbers of 64 bits are counted. -/
def inc64 (n : Int) : Int := if n = 9223372036854775807 then -9223372036854775808 else n + 1
def givenP (br : Int) (t : Tm) (l : List Pt) : Tm := match rootP br (infosP l) with
  | none => t
  | some k => match l[k]? with | some p => { p.times with age := inc64 p.times.age } | none => t
def mayB (br : Int) (t : Tm) (l : List Pt) : Bool := l.any Pt.reselect && (rightBr t && rightR (infosP l))
def chosenP (br : Int) (v : Vc) (gv : Tm) (sel : Int) (p : Pt) : Pt :=
  { p with
    reselect := false
    ready := true
    offer := ⟨v.root, v.cost, br, p.id⟩
    given := gv
    selected := sel
    update := decide ((infP p).source = 1) || (decide ((infP p).source = 2) && !(decide (p.vec = ⟨v.root, v.cost, br, p.id⟩) && decide (p.times = gv))) || (decide ((infP p).source = 3) && decide (sel = 2)) }
end Im
end Go.Proofs.YtngdilmgbgdkcaaDoor
