/-
  Layer 11: the deed settle.
-/
import Derived.Test.YtngdilmgbgdkcaaDoorInI
namespace Go.Proofs.YtngdilmgbgdkcaaDoor
set_option linter.unusedVariables false
set_option linter.unusedSimpArgs false
open Go.RowKit Vm Rm Bm Im

def RdS (w : World) (b : Nat) (p : Pt) : Prop :=
  (w.cell? ⟨b, 6, none⟩ = some (.int .u64 p.vec.root) ∧ w.cell? ⟨b, 7, none⟩ = some (.int .u64 p.vec.cost) ∧ w.cell? ⟨b, 8, none⟩ = some (.int .u64 p.vec.bridge) ∧ w.cell? ⟨b, 9, none⟩ = some (.int .u64 p.vec.port) ∧ w.cell? ⟨b, 10, none⟩ = some (.int .i64 p.times.age) ∧ w.cell? ⟨b, 11, none⟩ = some (.int .i64 p.times.max) ∧ w.cell? ⟨b, 12, none⟩ = some (.int .i64 p.times.hello) ∧ w.cell? ⟨b, 13, none⟩ = some (.int .i64 p.times.delay)) ∧ (w.cell? ⟨b, 14, none⟩ = some (.int .u64 p.offer.root) ∧ w.cell? ⟨b, 15, none⟩ = some (.int .u64 p.offer.cost) ∧ w.cell? ⟨b, 16, none⟩ = some (.int .u64 p.offer.bridge) ∧ w.cell? ⟨b, 17, none⟩ = some (.int .u64 p.offer.port) ∧ w.cell? ⟨b, 18, none⟩ = some (.int .i64 p.given.age) ∧ w.cell? ⟨b, 19, none⟩ = some (.int .i64 p.given.max) ∧ w.cell? ⟨b, 20, none⟩ = some (.int .i64 p.given.hello) ∧ w.cell? ⟨b, 21, none⟩ = some (.int .i64 p.given.delay))
theorem PtBlk.rds {T : TypeId} {w : World} {b : Nat} {p : Pt} (h : PtBlk T w b p) : RdS w b p := ⟨h.rd, h.c_offer_root, h.c_offer_cost, h.c_offer_bridge, h.c_offer_port, h.c_given_age, h.c_given_max, h.c_given_hello, h.c_given_delay⟩



theorem settle_eq (p X1 X2 Y : Pt) (A S : Bool) (e : (p.synced && A) = S) (e1 : ({ p with proposing := false, proposed := false, agreed := A } : Pt) = X1) (e2 : ({ X1 with synced := S } : Pt) = X2) (e3 : ({ X2 with vec := X2.offer, times := X2.given } : Pt) = Y) :
    ({ Y with update := false, source := 2, newInfo := true } : Pt) = { p with proposing := false, proposed := false, agreed := A, synced := p.synced && A, vec := p.offer, times := p.given, update := false, source := 2, newInfo := true } := by
  subst e1 e2 e3 e
  rfl


end Go.Proofs.YtngdilmgbgdkcaaDoor
