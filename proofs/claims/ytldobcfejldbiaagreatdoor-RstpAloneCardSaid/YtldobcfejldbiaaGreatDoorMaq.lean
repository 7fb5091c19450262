/-
  Layer 12: a table of moves; what stands in the table of each role.
  Layer 12: the tables of each role, as they are made.
-/
import Derived.Test.YtldobcfejldbiaaGreatDoorMal
namespace Go.Proofs.YtldobcfejldbiaaGreatDoor
set_option linter.unusedVariables false
set_option linter.unusedSimpArgs false
open Go.RowKit Vm Rm Bm Im

/-- A function's value: its number, what it is bound to, what it captured. -/
structure Fv where
  f : Nat
  b : Array Value
  c : Array Value
def Fv.val (v : Fv) : Value := .func (.func v.f) v.b v.c
/-- Behind a world w0, this answers R. -/
def Asks (w0 : World) (v : Fv) (R : Bool) : Prop :=
  (∀ (a : Array Value) (w : World), Sem.run Tryz.prog (callFunc v.f a) w = .ok (.enter v.f a) w) ∧ ∀ w : World, Below w0.heap.size w0 w → Calls Tryz.prog v.f (v.b ++ v.c) w fun e w' => e = .returned (.bool R) ∧ Below w.heap.size w w'
/-- Behind a world w0, this makes of the row in block g what a move makes of it. -/
def DoesT (w0 : World) (g : Nat) (l : List Pt) (k : Nat) (v : Fv) (m : Mv) : Prop :=
  (∀ (a : Array Value) (w : World), Sem.run Tryz.prog (callFunc v.f a) w = .ok (.enter v.f a) w) ∧ ∀ w : World, Below w0.heap.size w0 w → Calls Tryz.prog v.f (v.b ++ v.c) w fun e w' => e = .returned (.tuple #[]) ∧ WRow w' g (l.mapIdx (spreadAt m k)) ∧ Kp g w w'
/-- A row of a table: what asks, what does; what it answers, and makes. -/
structure Mvr where
  a : Fv
  d : Fv
  R : Bool
  m : Mv
def Tab (w : World) (g : Nat) (l : List Pt) (k : Nat) (ta : Option Addr) (rows : List Mvr) : Prop :=
  ∀ i r, rows[i]? = some r → ∃ tb : Nat, ta = some ⟨tb, 0, none⟩ ∧ tb < w.heap.size ∧ w.cell? ⟨tb, i * 2, none⟩ = some r.a.val ∧ w.cell? ⟨tb, i * 2 + 1, none⟩ = some r.d.val ∧ Asks w r.a r.R ∧ DoesT w g l k r.d r.m
def firstM : List Mvr → Option Mv
  | [] => none
  | r :: rs => if r.R = true then some r.m else firstM rs
theorem firstM_drop {rows : List Mvr} : ∀ {j : Nat}, (∀ i r, i < j → rows[i]? = some r → r.R = false) → firstM rows = firstM (rows.drop j) := by
  induction rows with
  | nil => intro j _; simp
  | cons x rs ih =>
    intro j h
    cases j with
    | zero => rfl
    | succ j =>
      have h0 := h 0 x (by omega) rfl
      rw [List.drop_succ_cons]
      have : firstM (x :: rs) = firstM rs := by
        show (if x.R = true then some x.m else firstM rs) = firstM rs
        rw [if_neg (by rw [h0]; decide)]
      rw [this]
      exact ih (j := j) fun i r hi hr => h (i + 1) r (by omega) (by simpa using hr)
theorem firstM_yes {rows : List Mvr} {j : Nat} {r : Mvr} (h : ∀ i r, i < j → rows[i]? = some r → r.R = false) (hr : rows[j]? = some r) (hR : r.R = true) : firstM rows = some r.m := by
  rw [firstM_drop h]
  have hj := (List.getElem?_eq_some_iff.1 hr).1
  rw [List.drop_eq_getElem_cons hj]
  have e := (List.getElem?_eq_some_iff.1 hr).2
  show (if rows[j].R = true then some rows[j].m else _) = _
  rw [e, if_pos hR]
theorem firstM_no {rows : List Mvr} (h : ∀ i r, i < rows.length → rows[i]? = some r → r.R = false) : firstM rows = none := by
  rw [firstM_drop h, List.drop_length]
  rfl
theorem spread_set {l : List Pt} {k : Nat} {p : Pt} (h : l[k]? = some p) (X : Pt) : l.set k X = l.mapIdx (spreadAt ⟨X, false, false⟩ k) := by
  have hk : k < l.length := (List.getElem?_eq_some_iff.1 h).1
  apply List.ext_getElem?
  intro i
  by_cases hi : k = i
  · subst hi
    rw [List.getElem?_set_self hk]
    simp [h, spreadAt]
  · rw [List.getElem?_set_ne hi]
    simp only [List.getElem?_mapIdx]
    cases hl : l[i]? with
    | none => rfl
    | some r =>
      have hne : ¬ i = k := fun e => hi e.symm
      simp [spreadAt, hne]
/-- What does something to the port alone. -/
theorem does_of {w0 : World} {f g k q : Nat} {b c : Array Value} {l : List Pt} {p X : Pt} (he : ∀ (a : Array Value) (w : World), Sem.run Tryz.prog (callFunc f a) w = .ok (.enter f a) w) (hr : WRow w0 g l) (hp : l[k]? = some p) (hq : k * 61 = q)
    (h : ∀ w : World, Below w0.heap.size w0 w → Calls Tryz.prog f (b ++ c) w fun e w' => e = .returned (.tuple #[]) ∧ Ta g q X w w') : DoesT w0 g l k ⟨f, b, c⟩ ⟨X, false, false⟩ := by
  subst hq
  exact ⟨he, fun w hb => (h w hb).mono fun e w' ⟨e1, t⟩ => ⟨e1, by rw [← spread_set hp]; exact t.wrow (hr.next hb) (List.getElem?_eq_some_iff.1 hp).1, t.kp⟩⟩
/-- A row of functions' values, as it lies in memory. -/
def flat2 (rows : List Mvr) : List Value := rows.flatMap fun r => [r.a.val, r.d.val]
theorem flat2_at {rows : List Mvr} : ∀ {i : Nat} {r : Mvr}, rows[i]? = some r → (flat2 rows)[i * 2]? = some r.a.val ∧ (flat2 rows)[i * 2 + 1]? = some r.d.val := by
  induction rows with
  | nil => intro i r h; simp at h
  | cons x rs ih =>
    intro i r h
    cases i with
    | zero =>
      simp only [List.getElem?_cons_zero, Option.some.injEq] at h
      subst h
      exact ⟨rfl, rfl⟩
    | succ i =>
      have := ih (i := i) (r := r) (by simpa using h)
      have e : flat2 (x :: rs) = x.a.val :: x.d.val :: flat2 rs := rfl
      rw [e, show (i + 1) * 2 = i * 2 + 1 + 1 by omega, show i * 2 + 1 + 1 + 1 = (i * 2 + 1) + 1 + 1 by omega]
      simp only [List.getElem?_cons_succ]
      exact this
theorem tab_of {w : World} {g k tb : Nat} {l : List Pt} {rows : List Mvr} (h : w.heap[tb]? = some (.cells (flat2 rows).toArray 235 (0, 0))) (hr : ∀ r ∈ rows, Asks w r.a r.R ∧ DoesT w g l k r.d r.m) : Tab w g l k (some ⟨tb, 0, none⟩) rows := by
  intro i r hi
  obtain ⟨h1, h2⟩ := flat2_at hi
  have h3 := hr r (List.mem_of_getElem? hi)
  refine ⟨tb, rfl, (Array.getElem?_eq_some_iff.1 h).1, ?_, ?_, h3.1, h3.2⟩
  · rw [cell_of_row w tb _ _ _ _ h, List.getElem?_toArray, h1]
  · rw [cell_of_row w tb _ _ _ _ h, List.getElem?_toArray, h2]
/-- What lies in memory beside a table: a seat, a port's address, the row. -/
structure Seat (w : World) (sb pb : Nat) (t : Tm) (g n cap k q : Nat) (l : List Pt) (p : Pt) : Prop where
  sk : SBk w sb t g n cap k q
  pk : One 149 w pb (pv g q)
  row : WRow w g l
  len : l.length = n
  le : n ≤ 1000
  at_ : l[k]? = some p
  hq : k * 61 = q
  h1 : pb ≠ g
  h2 : sb ≠ g
section
variable {w w' : World} {sb pb g n cap k q : Nat} {t : Tm} {l : List Pt} {p : Pt}
theorem Seat.next (h : Seat w sb pb t g n cap k q l p) (hb : Below w.heap.size w w') : Seat w' sb pb t g n cap k q l p :=
  ⟨h.sk.next hb, h.pk.next hb, h.row.next hb, h.len, h.le, h.at_, h.hq, h.h1, h.h2⟩
theorem Seat.pat (h : Seat w sb pb t g n cap k q l p) : PAt w g q p := h.hq ▸ h.row.pat h.at_
theorem t_role1 (S : Seat w sb pb t g n cap k q l p) : Asks w ⟨224, #[], #[pv pb 0]⟩ (decide (p.selected = 0 ∨ p.selected = 3 ∨ p.selected = 4)) :=
  ⟨fun _ _ => by kernel_rfl, fun w1 hB => by
    show Calls Tryz.prog 224 (#[] ++ #[pv pb 0]) w1 _
    rw [Array.empty_append]
    have S1 := S.next hB
    exact ask_role1 pb g q p _ w1 S1.pk S1.pat (Lib.hid rfl)⟩
theorem u_role1 (S : Seat w sb pb t g n cap k q l p) : DoesT w g l k ⟨225, #[], #[pv pb 0]⟩ ⟨{ p with role := p.selected, learn := false, forward := false }, false, false⟩ :=
  does_of (fun _ _ => by kernel_rfl) S.row S.at_ S.hq fun w1 hB => by
    rw [Array.empty_append]
    have S1 := S.next hB
    exact does_role1 pb g q p _ w1 S1.pk S1.h1 S1.pat (Lib.hid rfl)
theorem t_role2 (S : Seat w sb pb t g n cap k q l p) : Asks w ⟨226, #[], #[pv pb 0]⟩ (decide (p.selected = 1) || decide (p.selected = 2)) :=
  ⟨fun _ _ => by kernel_rfl, fun w1 hB => by
    show Calls Tryz.prog 226 (#[] ++ #[pv pb 0]) w1 _
    rw [Array.empty_append]
    have S1 := S.next hB
    exact ask_role2 pb g q p _ w1 S1.pk S1.pat (Lib.hid rfl)⟩
theorem u_role2 (S : Seat w sb pb t g n cap k q l p) : DoesT w g l k ⟨227, #[], #[pv pb 0, pv sb 0]⟩ ⟨role2P t p, false, false⟩ :=
  does_of (fun _ _ => by kernel_rfl) S.row S.at_ S.hq fun w1 hB => by
    rw [Array.empty_append]
    have S1 := S.next hB
    exact does_role2 pb sb g q t n cap k p _ w1 S1.pk S1.h1 S1.sk S1.h2 S1.pat (Lib.hid rfl)
theorem t_block1 (S : Seat w sb pb t g n cap k q l p) (H : Bool) (hb : Nat) (K : One 4 w hb (.bool H)) : Asks w ⟨229, #[], #[pv hb 0, pv pb 0]⟩ (H && (stillB p && propB p)) :=
  ⟨fun _ _ => by kernel_rfl, fun w1 hB => by
    show Calls Tryz.prog 229 (#[] ++ #[pv hb 0, pv pb 0]) w1 _
    rw [Array.empty_append]
    have S1 := S.next hB
    exact ask_block1 hb pb g q H p _ w1 (K.next hB) S1.pk S1.pat (Lib.hid rfl)⟩
theorem t_block2 (S : Seat w sb pb t g n cap k q l p) (H : Bool) (hb : Nat) (K : One 4 w hb (.bool H)) : Asks w ⟨233, #[], #[pv hb 0, pv sb 0]⟩ (H && agreesB (othersB syncedO l k) p) :=
  ⟨fun _ _ => by kernel_rfl, fun w1 hB => by
    show Calls Tryz.prog 233 (#[] ++ #[pv hb 0, pv sb 0]) w1 _
    rw [Array.empty_append]
    have S1 := S.next hB
    exact ask_block2 hb sb g q H t n cap k l p _ w1 (K.next hB) S1.sk S1.row S1.len S1.le S1.at_ S1.hq S1.pat (Lib.hid rfl)⟩
theorem t_block3 (S : Seat w sb pb t g n cap k q l p) (N : Int) (nb : Nat) (K : One 3 w nb (.int .i64 N)) : Asks w ⟨236, #[], #[pv pb 0, pv nb 0]⟩ (stillB p && (!decide (p.fd = N) || (p.sync || (p.reroot || !p.synced)))) :=
  ⟨fun _ _ => by kernel_rfl, fun w1 hB => by
    show Calls Tryz.prog 236 (#[] ++ #[pv pb 0, pv nb 0]) w1 _
    rw [Array.empty_append]
    have S1 := S.next hB
    exact ask_block3 pb nb g q N p _ w1 S1.pk (K.next hB) S1.pat (Lib.hid rfl)⟩
theorem u_block3 (S : Seat w sb pb t g n cap k q l p) (N : Int) (nb : Nat) (K : One 3 w nb (.int .i64 N)) (h3 : nb ≠ g) : DoesT w g l k ⟨237, #[], #[pv nb 0, pv pb 0]⟩ ⟨{ p with fd := N, synced := true, rr := 0, sync := false, reroot := false }, false, false⟩ :=
  does_of (fun _ _ => by kernel_rfl) S.row S.at_ S.hq fun w1 hB => by
    rw [Array.empty_append]
    have S1 := S.next hB
    exact does_block3 nb pb g q N p _ w1 (K.next hB) h3 S1.pk S1.h1 S1.pat (Lib.hid rfl)
theorem t_block4 (S : Seat w sb pb t g n cap k q l p) (N : Int) (nb : Nat) (K : One 3 w nb (.int .i64 N)) : Asks w ⟨238, #[], #[pv pb 0, pv nb 0]⟩ (decide (p.role = 4) && !decide (p.rb = N)) :=
  ⟨fun _ _ => by kernel_rfl, fun w1 hB => by
    show Calls Tryz.prog 238 (#[] ++ #[pv pb 0, pv nb 0]) w1 _
    rw [Array.empty_append]
    have S1 := S.next hB
    exact ask_block4 pb nb g q N p _ w1 S1.pk (K.next hB) S1.pat (Lib.hid rfl)⟩
theorem u_block4 (S : Seat w sb pb t g n cap k q l p) (N : Int) (nb : Nat) (K : One 3 w nb (.int .i64 N)) (h3 : nb ≠ g) : DoesT w g l k ⟨239, #[], #[pv nb 0, pv pb 0]⟩ ⟨{ p with rb := N }, false, false⟩ :=
  does_of (fun _ _ => by kernel_rfl) S.row S.at_ S.hq fun w1 hB => by
    rw [Array.empty_append]
    have S1 := S.next hB
    exact does_block4 nb pb g q N p _ w1 (K.next hB) h3 S1.pk S1.h1 S1.pat (Lib.hid rfl)
theorem t_root1 (S : Seat w sb pb t g n cap k q l p) : Asks w ⟨240, #[], #[pv pb 0]⟩ (propB p) :=
  ⟨fun _ _ => by kernel_rfl, fun w1 hB => by
    show Calls Tryz.prog 240 (#[] ++ #[pv pb 0]) w1 _
    rw [Array.empty_append]
    have S1 := S.next hB
    exact ask_root1 pb g q p _ w1 S1.pk S1.pat (Lib.hid rfl)⟩
theorem u_root2 (S : Seat w sb pb t g n cap k q l p) : DoesT w g l k ⟨241, #[], #[pv sb 0, pv pb 0]⟩ ⟨{ p with proposed := false, agree := true, newInfo := true, sync := false }, false, false⟩ :=
  does_of (fun _ _ => by kernel_rfl) S.row S.at_ S.hq fun w1 hB => by
    rw [Array.empty_append]
    have S1 := S.next hB
    exact does_root2 sb pb g q t n cap k p _ w1 S1.sk S1.h2 S1.pk S1.h1 S1.pat (Lib.hid rfl)
theorem t_root3 (S : Seat w sb pb t g n cap k q l p) : Asks w ⟨242, #[], #[pv pb 0]⟩ ((p.agreed && !p.synced) || (p.sync && p.synced)) :=
  ⟨fun _ _ => by kernel_rfl, fun w1 hB => by
    show Calls Tryz.prog 242 (#[] ++ #[pv pb 0]) w1 _
    rw [Array.empty_append]
    have S1 := S.next hB
    exact ask_root3 pb g q p _ w1 S1.pk S1.pat (Lib.hid rfl)⟩
theorem u_root3 (S : Seat w sb pb t g n cap k q l p) : DoesT w g l k ⟨243, #[], #[pv pb 0]⟩ ⟨{ p with synced := true, sync := false }, false, false⟩ :=
  does_of (fun _ _ => by kernel_rfl) S.row S.at_ S.hq fun w1 hB => by
    rw [Array.empty_append]
    have S1 := S.next hB
    exact does_root3 pb g q p _ w1 S1.pk S1.h1 S1.pat (Lib.hid rfl)
theorem t_root4 (S : Seat w sb pb t g n cap k q l p) : Asks w ⟨244, #[], #[pv pb 0]⟩ (!p.forward && !p.reroot) :=
  ⟨fun _ _ => by kernel_rfl, fun w1 hB => by
    show Calls Tryz.prog 244 (#[] ++ #[pv pb 0]) w1 _
    rw [Array.empty_append]
    have S1 := S.next hB
    exact ask_root4 pb g q p _ w1 S1.pk S1.pat (Lib.hid rfl)⟩
theorem t_root5 (S : Seat w sb pb t g n cap k q l p) : Asks w ⟨246, #[], #[pv pb 0, pv sb 0]⟩ (!decide (p.rr = t.delay)) :=
  ⟨fun _ _ => by kernel_rfl, fun w1 hB => by
    show Calls Tryz.prog 246 (#[] ++ #[pv pb 0, pv sb 0]) w1 _
    rw [Array.empty_append]
    have S1 := S.next hB
    exact ask_root5 pb sb g q t n cap k p _ w1 S1.pk S1.sk S1.pat (Lib.hid rfl)⟩
theorem u_root5 (S : Seat w sb pb t g n cap k q l p) : DoesT w g l k ⟨247, #[], #[pv sb 0, pv pb 0]⟩ ⟨{ p with rr := t.delay }, false, false⟩ :=
  does_of (fun _ _ => by kernel_rfl) S.row S.at_ S.hq fun w1 hB => by
    rw [Array.empty_append]
    have S1 := S.next hB
    exact does_root5 sb pb g q t n cap k p _ w1 S1.sk S1.h2 S1.pk S1.h1 S1.pat (Lib.hid rfl)
theorem t_root6 (S : Seat w sb pb t g n cap k q l p) : Asks w ⟨248, #[], #[pv pb 0]⟩ (p.reroot && p.forward) :=
  ⟨fun _ _ => by kernel_rfl, fun w1 hB => by
    show Calls Tryz.prog 248 (#[] ++ #[pv pb 0]) w1 _
    rw [Array.empty_append]
    have S1 := S.next hB
    exact ask_root6 pb g q p _ w1 S1.pk S1.pat (Lib.hid rfl)⟩
theorem u_root6 (S : Seat w sb pb t g n cap k q l p) : DoesT w g l k ⟨249, #[], #[pv pb 0]⟩ ⟨{ p with reroot := false }, false, false⟩ :=
  does_of (fun _ _ => by kernel_rfl) S.row S.at_ S.hq fun w1 hB => by
    rw [Array.empty_append]
    have S1 := S.next hB
    exact does_root6 pb g q p _ w1 S1.pk S1.h1 S1.pat (Lib.hid rfl)
theorem t_root7 (S : Seat w sb pb t g n cap k q l p) : Asks w ⟨250, #[], #[pv sb 0, pv pb 0]⟩ (rootMayB (othersB rerootedO l k) p && closedB p) :=
  ⟨fun _ _ => by kernel_rfl, fun w1 hB => by
    show Calls Tryz.prog 250 (#[] ++ #[pv sb 0, pv pb 0]) w1 _
    rw [Array.empty_append]
    have S1 := S.next hB
    exact ask_root7 sb pb g q t n cap k l p _ w1 S1.sk S1.pk S1.row S1.len S1.le S1.at_ S1.hq S1.pat (Lib.hid rfl)⟩
theorem t_des1 (S : Seat w sb pb t g n cap k q l p) : Asks w ⟨254, #[], #[pv pb 0]⟩ (!p.forward && (!p.agreed && (!p.proposing && (!p.oper && p.sendRstp)))) :=
  ⟨fun _ _ => by kernel_rfl, fun w1 hB => by
    show Calls Tryz.prog 254 (#[] ++ #[pv pb 0]) w1 _
    rw [Array.empty_append]
    have S1 := S.next hB
    exact ask_des1 pb g q p _ w1 S1.pk S1.pat (Lib.hid rfl)⟩
theorem u_des1 (S : Seat w sb pb t g n cap k q l p) : DoesT w g l k ⟨255, #[], #[pv pb 0]⟩ ⟨{ p with proposing := true, newInfo := true, edge := 3 }, false, false⟩ :=
  does_of (fun _ _ => by kernel_rfl) S.row S.at_ S.hq fun w1 hB => by
    rw [Array.empty_append]
    have S1 := S.next hB
    exact does_des1 pb g q p _ w1 S1.pk S1.h1 S1.pat (Lib.hid rfl)
theorem t_des2 (S : Seat w sb pb t g n cap k q l p) : Asks w ⟨256, #[], #[pv pb 0]⟩ ((!p.synced && (stillB p || (p.agreed || p.oper))) || (p.sync && p.synced)) :=
  ⟨fun _ _ => by kernel_rfl, fun w1 hB => by
    show Calls Tryz.prog 256 (#[] ++ #[pv pb 0]) w1 _
    rw [Array.empty_append]
    have S1 := S.next hB
    exact ask_des2 pb g q p _ w1 S1.pk S1.pat (Lib.hid rfl)⟩
theorem u_des2 (S : Seat w sb pb t g n cap k q l p) : DoesT w g l k ⟨257, #[], #[pv pb 0]⟩ ⟨{ p with rr := 0, synced := true, sync := false }, false, false⟩ :=
  does_of (fun _ _ => by kernel_rfl) S.row S.at_ S.hq fun w1 hB => by
    rw [Array.empty_append]
    have S1 := S.next hB
    exact does_des2 pb g q p _ w1 S1.pk S1.h1 S1.pat (Lib.hid rfl)
theorem t_des3 (S : Seat w sb pb t g n cap k q l p) : Asks w ⟨258, #[], #[pv pb 0]⟩ (decide (p.rr = 0) && p.reroot) :=
  ⟨fun _ _ => by kernel_rfl, fun w1 hB => by
    show Calls Tryz.prog 258 (#[] ++ #[pv pb 0]) w1 _
    rw [Array.empty_append]
    have S1 := S.next hB
    exact ask_des3 pb g q p _ w1 S1.pk S1.pat (Lib.hid rfl)⟩
theorem u_des3 (S : Seat w sb pb t g n cap k q l p) : DoesT w g l k ⟨259, #[], #[pv pb 0]⟩ ⟨{ p with reroot := false }, false, false⟩ :=
  does_of (fun _ _ => by kernel_rfl) S.row S.at_ S.hq fun w1 hB => by
    rw [Array.empty_append]
    have S1 := S.next hB
    exact does_des3 pb g q p _ w1 S1.pk S1.h1 S1.pat (Lib.hid rfl)
theorem t_des4 (S : Seat w sb pb t g n cap k q l p) : Asks w ⟨260, #[], #[pv pb 0]⟩ (desStops p && (!p.oper && (p.learn || p.forward))) :=
  ⟨fun _ _ => by kernel_rfl, fun w1 hB => by
    show Calls Tryz.prog 260 (#[] ++ #[pv pb 0]) w1 _
    rw [Array.empty_append]
    have S1 := S.next hB
    exact ask_des4 pb g q p _ w1 S1.pk S1.pat (Lib.hid rfl)⟩
theorem u_des4 (S : Seat w sb pb t g n cap k q l p) : DoesT w g l k ⟨262, #[], #[pv sb 0, pv pb 0]⟩ ⟨{ p with learn := false, forward := false, disputed := false, fd := t.delay }, false, false⟩ :=
  does_of (fun _ _ => by kernel_rfl) S.row S.at_ S.hq fun w1 hB => by
    rw [Array.empty_append]
    have S1 := S.next hB
    exact does_des4 sb pb g q t n cap k p _ w1 S1.sk S1.h2 S1.pk S1.h1 S1.pat (Lib.hid rfl)
theorem t_des5 (S : Seat w sb pb t g n cap k q l p) : Asks w ⟨263, #[], #[pv pb 0]⟩ (desMay p && closedB p) :=
  ⟨fun _ _ => by kernel_rfl, fun w1 hB => by
    show Calls Tryz.prog 263 (#[] ++ #[pv pb 0]) w1 _
    rw [Array.empty_append]
    have S1 := S.next hB
    exact ask_des5 pb g q p _ w1 S1.pk S1.pat (Lib.hid rfl)⟩
theorem u_des5 (S : Seat w sb pb t g n cap k q l p) : DoesT w g l k ⟨265, #[], #[pv pb 0, pv sb 0]⟩ ⟨des5P t p, false, false⟩ :=
  does_of (fun _ _ => by kernel_rfl) S.row S.at_ S.hq fun w1 hB => by
    rw [Array.empty_append]
    have S1 := S.next hB
    exact does_des5 pb sb g q t n cap k p _ w1 S1.pk S1.h1 S1.sk S1.h2 S1.pat (Lib.hid rfl)
theorem t_mayAgree (S : Seat w sb pb t g n cap k q l p) : Asks w ⟨234, #[sv t g n cap k q], #[]⟩ (agreesB (othersB syncedO l k) p) :=
  ⟨fun _ _ => by kernel_rfl, fun w1 hB => by
    show Calls Tryz.prog 234 (#[sv t g n cap k q] ++ #[]) w1 _
    rw [Array.append_empty]
    have S1 := S.next hB
    exact mayAgree_w t g n cap k q l p _ w1 S1.row S1.len S1.le S1.at_ S1.hq (Lib.hid rfl)⟩
theorem u_agree (S : Seat w sb pb t g n cap k q l p) : DoesT w g l k ⟨235, #[sv t g n cap k q], #[]⟩ ⟨{ p with proposed := false, agree := true, newInfo := true }, false, false⟩ :=
  does_of (fun _ _ => by kernel_rfl) S.row S.at_ S.hq fun w1 hB => by
    rw [Array.append_empty]
    have S1 := S.next hB
    exact tagree_w t g n cap k q p _ w1 S1.pat (Lib.hid rfl)
theorem u_open (S : Seat w sb pb t g n cap k q l p) : DoesT w g l k ⟨253, #[sv t g n cap k q], #[]⟩ ⟨openP t p, false, false⟩ :=
  does_of (fun _ _ => by kernel_rfl) S.row S.at_ S.hq fun w1 hB => by
    rw [Array.append_empty]
    have S1 := S.next hB
    exact open_w t g n cap k q p _ w1 S1.pat (Lib.hid rfl)
theorem u_sync (S : Seat w sb pb t g n cap k q l p) : DoesT w g l k ⟨232, #[sv t g n cap k q], #[]⟩ ⟨{ p with proposed := false }, true, false⟩ :=
  ⟨fun _ _ => by kernel_rfl, fun w1 hB => by
    show Calls Tryz.prog 232 (#[sv t g n cap k q] ++ #[]) w1 _
    rw [Array.append_empty]
    have S1 := S.next hB
    rw [← S1.hq]
    exact syncOthers_w t g n cap k l p w1 S1.row S1.len S1.le S1.at_⟩
theorem u_reroot (S : Seat w sb pb t g n cap k q l p) : DoesT w g l k ⟨245, #[sv t g n cap k q], #[]⟩ ⟨p, false, true⟩ :=
  ⟨fun _ _ => by kernel_rfl, fun w1 hB => by
    show Calls Tryz.prog 245 (#[sv t g n cap k q] ++ #[]) w1 _
    rw [Array.append_empty]
    have S1 := S.next hB
    exact rerootAll_w t g n cap k q l p w1 S1.row S1.len S1.le S1.at_⟩
end
end Go.Proofs.YtldobcfejldbiaaGreatDoor

namespace Go.Proofs.YtldobcfejldbiaaGreatDoor
set_option linter.unusedVariables false
set_option linter.unusedSimpArgs false
open Go.RowKit Vm Rm Bm Im

/-- What a table's maker hands back: the table, and what stands in it. -/
def Made (w w' : World) (g : Nat) (l : List Pt) (k : Nat) (M : Option Mv) (e : Ending) : Prop :=
  ∃ (ta : Option Addr) (rows : List Mvr), e = .returned (.slice ta rows.length rows.length) ∧ rows.length ≤ 7 ∧ Tab w' g l k ta rows ∧ firstM rows = M ∧ Below w.heap.size w w'
theorem first_if {a d : Fv} {R : Bool} {m : Mv} {rs : List Mvr} {M : Option Mv} (h : firstM rs = M) : firstM (⟨a, d, R, m⟩ :: rs) = if R = true then some m else M := by subst h; rfl
/-- A seat, and its port's address, behind a world. -/
theorem twoS_is (t : Tm) (g n cap k q : Nat) (l : List Pt) (p : Pt) (w : World) (hr : WRow w g l) (hn : l.length = n) (hl : n ≤ 1000) (hp : l[k]? = some p) (hq : k * 61 = q) :
    ∃ (W V : World) (sb : Nat), Hid (w.alloc (.cells (scl t g n cap k q) 231) = W) ∧ Hid (w.heap.size = sb) ∧ Hid (W.alloc (.cells #[pv g q] 149) = V) ∧ Hid (W.heap.size = sb + 1) ∧ Hid (V.heap.size = sb + 2) ∧ SBk W sb t g n cap k q ∧ Seat V sb (sb + 1) t g n cap k q l p ∧ Below w.heap.size w V := by
  have hgl := hr.lt
  have B1 : Below w.heap.size w (w.alloc (.cells (scl t g n cap k q) 231)) := below_box w _
  have S1 := sbk_new (t := t) (g := g) (n := n) (cap := cap) (k := k) (q := q) w
  have hs : (w.alloc (.cells (scl t g n cap k q) 231)).heap.size = w.heap.size + 1 := size_box w _
  refine ⟨_, _, w.heap.size, Lib.hid rfl, Lib.hid rfl, Lib.hid rfl, Lib.hid hs, Lib.hid (by rw [size_box, hs]), S1, ?_, bw_alloc B1 _⟩
  refine ⟨S1.next (below_box _ _), ?_, (hr.next B1).next (below_box _ _), hn, hl, hp, hq, by omega, by omega⟩
  show One _ _ (w.heap.size + 1) _
  rw [← hs]
  exact heap_alloc_new _ _

theorem first_role (t : Tm) (p : Pt) (a1 d1 a2 d2 : Fv) : firstM [⟨a1, d1, decide (p.selected = 0 ∨ p.selected = 3 ∨ p.selected = 4), ⟨{ p with role := p.selected, learn := false, forward := false }, false, false⟩⟩, ⟨a2, d2, (decide (p.selected = 1) || decide (p.selected = 2)), ⟨role2P t p, false, false⟩⟩] = roleF' t p := by
  unfold roleF' role2P
  simp only [firstM, decide_eq_true_eq, Bool.or_eq_true]
  split
  · rfl
  · by_cases h1 : p.selected = 1
    · rw [if_pos (.inl h1), if_pos h1, if_pos h1, h1]
    · rw [if_neg h1]
      by_cases h2 : p.selected = 2
      · rw [if_pos (.inr h2), if_neg h1, if_pos h2, h2]
      · rw [if_neg (by simp [h1, h2]), if_neg h2, if_neg h1]

set_option maxRecDepth 20000 in
set_option maxHeartbeats 1000000 in
theorem toRole_w (t : Tm) (g n cap k q : Nat) (l : List Pt) (p : Pt) (w : World) (hr : WRow w g l) (hn : l.length = n) (hl : n ≤ 1000) (hp : l[k]? = some p) (hq : k * 61 = q) :
    Calls Tryz.prog 210 #[sv t g n cap k q] w fun e w' => Made w w' g l k (roleF' t p) e := by
  obtain ⟨W, V, sb, HW, HS, HV, HWs, HVs, k0, hS, hB⟩ := twoS_is t g n cap k q l p w hr hn hl hp hq
  obtain ⟨s0, s1, s2, s3, s4, s5, s6⟩ := k0.cells
  obtain ⟨v0, v1, v2, v3, v4, v5, v6⟩ := hS.sk.cells
  have SS := Lib.hid hS
  have BB := Lib.hid hB
  clear hr hn hl hp hq k0 hS hB
  unfold sv scl
  go_enter Tryz.func210, Tryz.ntmps210
  go_upto_region 1 with (fail)
  refine wp_to (W := W) (by exact HW.out.symm) ?_
  rw [HS.out]
  go_upto_region 2 with (fail)
  refine wp_to (W := V) (by exact HV.out.symm) ?_
  rw [HWs.out]
  go_wp2
  go_ret
  have hb := below_box V (.cells #[.func (.func 224) #[] #[pv (sb + 1) 0], .func (.func 225) #[] #[pv (sb + 1) 0], .func (.func 226) #[] #[pv (sb + 1) 0], .func (.func 227) #[] #[pv (sb + 1) 0, pv sb 0]] 235)
  have S2 := SS.out.next hb
  rw [HVs.out]
  refine ⟨some ⟨sb + 2, 0, none⟩, [⟨⟨224, #[], #[pv (sb + 1) 0]⟩, ⟨225, #[], #[pv (sb + 1) 0]⟩, decide (p.selected = 0 ∨ p.selected = 3 ∨ p.selected = 4), ⟨{ p with role := p.selected, learn := false, forward := false }, false, false⟩⟩, ⟨⟨226, #[], #[pv (sb + 1) 0]⟩, ⟨227, #[], #[pv (sb + 1) 0, pv sb 0]⟩, (decide (p.selected = 1) || decide (p.selected = 2)), ⟨role2P t p, false, false⟩⟩], rfl, Nat.le_of_ble_eq_true rfl, tab_of ?_ ?_, ?_, bw_trans BB.out hb⟩
  · rw [← HVs.out]; exact heap_alloc_new V _
  · intro r hr
    simp only [List.mem_cons, List.not_mem_nil, or_false] at hr
    rcases hr with rfl | rfl
    · exact ⟨t_role1 S2, u_role1 S2⟩
    · exact ⟨t_role2 S2, u_role2 S2⟩
  · exact first_role t p _ _ _ _

theorem first_root (t : Tm) (so ro : Bool) (p : Pt) (a1 d1 a2 d2 a3 d3 a4 d4 a5 d5 a6 d6 a7 d7 : Fv) :
    firstM [⟨a1, d1, propB p, ⟨{ p with proposed := false }, true, false⟩⟩, ⟨a2, d2, agreesB so p, ⟨{ p with proposed := false, agree := true, newInfo := true, sync := false }, false, false⟩⟩,
      ⟨a3, d3, ((p.agreed && !p.synced) || (p.sync && p.synced)), ⟨{ p with synced := true, sync := false }, false, false⟩⟩, ⟨a4, d4, (!p.forward && !p.reroot), ⟨p, false, true⟩⟩,
      ⟨a5, d5, (!decide (p.rr = t.delay)), ⟨{ p with rr := t.delay }, false, false⟩⟩, ⟨a6, d6, (p.reroot && p.forward), ⟨{ p with reroot := false }, false, false⟩⟩, ⟨a7, d7, (rootMayB ro p && closedB p), ⟨openP t p, false, false⟩⟩] = rootF t so ro p := by
  unfold rootF
  refine first_if (first_if (first_if (first_if (first_if (first_if ?_)))))
  show (if (rootMayB ro p && closedB p) = true then some (⟨openP t p, false, false⟩ : Mv) else none) = _
  unfold rootMayB closedB openP
  obtain ⟨x, hx⟩ : ∃ x, (decide (p.fd = 0) || (decide (p.rb = 0) && (p.sendRstp && ro))) = x := ⟨_, rfl⟩
  rw [hx]
  cases x
  · rfl
  · cases hl : p.learn
    · rfl
    · cases hf : p.forward <;> rfl

set_option maxRecDepth 20000 in
set_option maxHeartbeats 1000000 in
theorem ofRoot_w (t : Tm) (g n cap k q : Nat) (l : List Pt) (p : Pt) (w : World) (hr : WRow w g l) (hn : l.length = n) (hl : n ≤ 1000) (hp : l[k]? = some p) (hq : k * 61 = q) :
    Calls Tryz.prog 213 #[sv t g n cap k q] w fun e w' => Made w w' g l k (rootF t (othersB syncedO l k) (othersB rerootedO l k) p) e := by
  obtain ⟨W, V, sb, HW, HS, HV, HWs, HVs, k0, hS, hB⟩ := twoS_is t g n cap k q l p w hr hn hl hp hq
  obtain ⟨s0, s1, s2, s3, s4, s5, s6⟩ := k0.cells
  obtain ⟨v0, v1, v2, v3, v4, v5, v6⟩ := hS.sk.cells
  have SS := Lib.hid hS
  have BB := Lib.hid hB
  clear hr hn hl hp hq k0 hS hB
  unfold sv scl
  go_enter Tryz.func213, Tryz.ntmps213
  go_upto_region 1 with (fail)
  refine wp_to (W := W) (by exact HW.out.symm) ?_
  rw [HS.out]
  go_upto_region 2 with (fail)
  refine wp_to (W := V) (by exact HV.out.symm) ?_
  rw [HWs.out]
  go_wp2
  go_ret
  have hb := below_box V (.cells #[.func (.func 240) #[] #[pv (sb + 1) 0], .func (.func 232) #[sv t g n cap k q] #[], .func (.func 234) #[sv t g n cap k q] #[], .func (.func 241) #[] #[pv sb 0, pv (sb + 1) 0], .func (.func 242) #[] #[pv (sb + 1) 0], .func (.func 243) #[] #[pv (sb + 1) 0], .func (.func 244) #[] #[pv (sb + 1) 0], .func (.func 245) #[sv t g n cap k q] #[], .func (.func 246) #[] #[pv (sb + 1) 0, pv sb 0], .func (.func 247) #[] #[pv sb 0, pv (sb + 1) 0], .func (.func 248) #[] #[pv (sb + 1) 0], .func (.func 249) #[] #[pv (sb + 1) 0], .func (.func 250) #[] #[pv sb 0, pv (sb + 1) 0], .func (.func 253) #[sv t g n cap k q] #[]] 235)
  have S2 := SS.out.next hb
  rw [HVs.out]
  refine ⟨some ⟨sb + 2, 0, none⟩, [⟨⟨240, #[], #[pv (sb + 1) 0]⟩, ⟨232, #[sv t g n cap k q], #[]⟩, propB p, ⟨{ p with proposed := false }, true, false⟩⟩, ⟨⟨234, #[sv t g n cap k q], #[]⟩, ⟨241, #[], #[pv sb 0, pv (sb + 1) 0]⟩, agreesB (othersB syncedO l k) p, ⟨{ p with proposed := false, agree := true, newInfo := true, sync := false }, false, false⟩⟩, ⟨⟨242, #[], #[pv (sb + 1) 0]⟩, ⟨243, #[], #[pv (sb + 1) 0]⟩, ((p.agreed && !p.synced) || (p.sync && p.synced)), ⟨{ p with synced := true, sync := false }, false, false⟩⟩, ⟨⟨244, #[], #[pv (sb + 1) 0]⟩, ⟨245, #[sv t g n cap k q], #[]⟩, (!p.forward && !p.reroot), ⟨p, false, true⟩⟩, ⟨⟨246, #[], #[pv (sb + 1) 0, pv sb 0]⟩, ⟨247, #[], #[pv sb 0, pv (sb + 1) 0]⟩, (!decide (p.rr = t.delay)), ⟨{ p with rr := t.delay }, false, false⟩⟩, ⟨⟨248, #[], #[pv (sb + 1) 0]⟩, ⟨249, #[], #[pv (sb + 1) 0]⟩, (p.reroot && p.forward), ⟨{ p with reroot := false }, false, false⟩⟩, ⟨⟨250, #[], #[pv sb 0, pv (sb + 1) 0]⟩, ⟨253, #[sv t g n cap k q], #[]⟩, (rootMayB (othersB rerootedO l k) p && closedB p), ⟨openP t p, false, false⟩⟩], rfl, Nat.le_of_ble_eq_true rfl, tab_of ?_ ?_, ?_, bw_trans BB.out hb⟩
  · rw [← HVs.out]; exact heap_alloc_new V _
  · intro r hr
    simp only [List.mem_cons, List.not_mem_nil, or_false] at hr
    rcases hr with rfl | rfl | rfl | rfl | rfl | rfl | rfl
    · exact ⟨t_root1 S2, u_sync S2⟩
    · exact ⟨t_mayAgree S2, u_root2 S2⟩
    · exact ⟨t_root3 S2, u_root3 S2⟩
    · exact ⟨t_root4 S2, u_reroot S2⟩
    · exact ⟨t_root5 S2, u_root5 S2⟩
    · exact ⟨t_root6 S2, u_root6 S2⟩
    · exact ⟨t_root7 S2, u_open S2⟩
  · exact first_root t _ _ p _ _ _ _ _ _ _ _ _ _ _ _ _ _

theorem des5_no (t : Tm) {p : Pt} (h : p.learn = false) : des5P t p = { p with learn := true, fd := t.delay } := by
  unfold des5P
  rw [if_pos h]
  unfold openP
  rw [if_pos h]
theorem des5_yes (t : Tm) {p : Pt} (h : p.learn = true) : des5P t p = { p with agreed := p.sendRstp, forward := true, fd := 0 } := by
  have h' : ¬ p.learn = false := by rw [h]; decide
  unfold des5P
  rw [if_neg h']
  unfold openP
  rw [if_neg h']
theorem first_des (t : Tm) (p : Pt) (a1 d1 a2 d2 a3 d3 a4 d4 a5 d5 : Fv) :
    firstM [⟨a1, d1, (!p.forward && (!p.agreed && (!p.proposing && (!p.oper && p.sendRstp)))), ⟨{ p with proposing := true, newInfo := true, edge := 3 }, false, false⟩⟩,
      ⟨a2, d2, ((!p.synced && (stillB p || (p.agreed || p.oper))) || (p.sync && p.synced)), ⟨{ p with rr := 0, synced := true, sync := false }, false, false⟩⟩, ⟨a3, d3, (decide (p.rr = 0) && p.reroot), ⟨{ p with reroot := false }, false, false⟩⟩,
      ⟨a4, d4, (desStops p && (!p.oper && (p.learn || p.forward))), ⟨{ p with learn := false, forward := false, disputed := false, fd := t.delay }, false, false⟩⟩, ⟨a5, d5, (desMay p && closedB p), ⟨des5P t p, false, false⟩⟩] = desF t p := by
  unfold desF
  refine first_if (first_if (first_if (first_if ?_)))
  show (if (desMay p && closedB p) = true then some (⟨des5P t p, false, false⟩ : Mv) else none) = _
  unfold closedB
  obtain ⟨x, hx⟩ : ∃ x, desMay p = x := ⟨_, rfl⟩
  rw [hx]
  cases x
  · rfl
  · by_cases h : p.learn = false
    · rw [des5_no t h, if_pos (show (true && (!p.learn || !p.forward)) = true by rw [h]; rfl), if_pos (show (true && !p.learn) = true by rw [h]; rfl)]
    · have h' : p.learn = true := by cases hl : p.learn; exact absurd hl h; rfl
      rw [des5_yes t h', if_neg (show ¬ (true && !p.learn) = true by rw [h']; decide)]
      by_cases f : p.forward = true
      · rw [if_neg (show ¬ (true && (!p.learn || !p.forward)) = true by rw [h', f]; decide), if_neg (show ¬ (true && !p.forward) = true by rw [f]; decide)]
      · have f' : p.forward = false := by cases hl : p.forward; rfl; exact absurd hl f
        rw [if_pos (show (true && (!p.learn || !p.forward)) = true by rw [h', f']; rfl), if_pos (show (true && !p.forward) = true by rw [f']; rfl)]

set_option maxRecDepth 20000 in
set_option maxHeartbeats 1000000 in
theorem ofDesignated_w (t : Tm) (g n cap k q : Nat) (l : List Pt) (p : Pt) (w : World) (hr : WRow w g l) (hn : l.length = n) (hl : n ≤ 1000) (hp : l[k]? = some p) (hq : k * 61 = q) :
    Calls Tryz.prog 214 #[sv t g n cap k q] w fun e w' => Made w w' g l k (desF t p) e := by
  obtain ⟨W, V, sb, HW, HS, HV, HWs, HVs, k0, hS, hB⟩ := twoS_is t g n cap k q l p w hr hn hl hp hq
  obtain ⟨s0, s1, s2, s3, s4, s5, s6⟩ := k0.cells
  obtain ⟨v0, v1, v2, v3, v4, v5, v6⟩ := hS.sk.cells
  have SS := Lib.hid hS
  have BB := Lib.hid hB
  clear hr hn hl hp hq k0 hS hB
  unfold sv scl
  go_enter Tryz.func214, Tryz.ntmps214
  go_upto_region 1 with (fail)
  refine wp_to (W := W) (by exact HW.out.symm) ?_
  rw [HS.out]
  go_upto_region 2 with (fail)
  refine wp_to (W := V) (by exact HV.out.symm) ?_
  rw [HWs.out]
  go_wp2
  go_ret
  have hb := below_box V (.cells #[.func (.func 254) #[] #[pv (sb + 1) 0], .func (.func 255) #[] #[pv (sb + 1) 0], .func (.func 256) #[] #[pv (sb + 1) 0], .func (.func 257) #[] #[pv (sb + 1) 0], .func (.func 258) #[] #[pv (sb + 1) 0], .func (.func 259) #[] #[pv (sb + 1) 0], .func (.func 260) #[] #[pv (sb + 1) 0], .func (.func 262) #[] #[pv sb 0, pv (sb + 1) 0], .func (.func 263) #[] #[pv (sb + 1) 0], .func (.func 265) #[] #[pv (sb + 1) 0, pv sb 0]] 235)
  have S2 := SS.out.next hb
  rw [HVs.out]
  refine ⟨some ⟨sb + 2, 0, none⟩, [⟨⟨254, #[], #[pv (sb + 1) 0]⟩, ⟨255, #[], #[pv (sb + 1) 0]⟩, (!p.forward && (!p.agreed && (!p.proposing && (!p.oper && p.sendRstp)))), ⟨{ p with proposing := true, newInfo := true, edge := 3 }, false, false⟩⟩, ⟨⟨256, #[], #[pv (sb + 1) 0]⟩, ⟨257, #[], #[pv (sb + 1) 0]⟩, ((!p.synced && (stillB p || (p.agreed || p.oper))) || (p.sync && p.synced)), ⟨{ p with rr := 0, synced := true, sync := false }, false, false⟩⟩, ⟨⟨258, #[], #[pv (sb + 1) 0]⟩, ⟨259, #[], #[pv (sb + 1) 0]⟩, (decide (p.rr = 0) && p.reroot), ⟨{ p with reroot := false }, false, false⟩⟩, ⟨⟨260, #[], #[pv (sb + 1) 0]⟩, ⟨262, #[], #[pv sb 0, pv (sb + 1) 0]⟩, (desStops p && (!p.oper && (p.learn || p.forward))), ⟨{ p with learn := false, forward := false, disputed := false, fd := t.delay }, false, false⟩⟩, ⟨⟨263, #[], #[pv (sb + 1) 0]⟩, ⟨265, #[], #[pv (sb + 1) 0, pv sb 0]⟩, (desMay p && closedB p), ⟨des5P t p, false, false⟩⟩], rfl, Nat.le_of_ble_eq_true rfl, tab_of ?_ ?_, ?_, bw_trans BB.out hb⟩
  · rw [← HVs.out]; exact heap_alloc_new V _
  · intro r hr
    simp only [List.mem_cons, List.not_mem_nil, or_false] at hr
    rcases hr with rfl | rfl | rfl | rfl | rfl
    · exact ⟨t_des1 S2, u_des1 S2⟩
    · exact ⟨t_des2 S2, u_des2 S2⟩
    · exact ⟨t_des3 S2, u_des3 S2⟩
    · exact ⟨t_des4 S2, u_des4 S2⟩
    · exact ⟨t_des5 S2, u_des5 S2⟩
  · exact first_des t p _ _ _ _ _ _ _ _ _ _
end Go.Proofs.YtldobcfejldbiaaGreatDoor
